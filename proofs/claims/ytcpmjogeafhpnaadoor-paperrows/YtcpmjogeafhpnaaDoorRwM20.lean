/- A phone's number: the program's, the document's. -/
import Derived.Test.YtcpmjogeafhpnaaDoorRwM19
import Derived.Lib.Bytealg
import Derived.Shelf.Strings.Search2
import Derived.Shelf.LaysM
import Derived.Test.YtcpmjogeafhpnaaDoorProg
set_option linter.all false
set_option maxRecDepth 100000
namespace Go.Proofs.YtcpmjogeafhpnaaDoor.Tx
open Go.RowKit Go.Sep
attribute [local irreducible] Go.wpList Go.Code.wp

theorem blank_c {I : IM} {x : Nat} : Fun Tryd.prog 121 #[.int .i32 ((x : Nat) : Int)] I (fun v J => v = .bool (decide (x = 32))) := by
 refine enter_rule 5 [(0, .int .i32 x)] Tryd.func121 rfl (by kernel_rfl) ?_
 intro w s
 refine seqR ?_
 refine oKD [] [] 1 [] 0 (fun φ1 => [(2, .bool false)]) (fun φ1 => []) s (fun φ1 => by kernel_rfl) (by kernel_rfl) ?_
 intro φ1 w1 s
 refine seqR ?_
 refine oK [] [] 3 [] 0 (fun φ2 => [(2, .bool (((x : Nat) : Int) == ((32 : Nat) : Int))), (4, .bool (((x : Nat) : Int) == ((32 : Nat) : Int))), (3, .int .i32 x)]) (fun φ2 => []) s (fun φ2 => by kernel_rfl) ?_
 intro φ2 w2 s
 rw [nat_eql (a := x) (b := 32)]
 refine ops_done (by kernel_rfl) ?_
 refine wp_ret ?_
 refine ret_rule (C := []) [] [] (.bool (decide (x = 32))) [] [] s trivial (by kernel_rfl) ?_
 exact ⟨_, _, _, rfl, s, rfl⟩

theorem dR_or (l : List UInt8) (p : Nat) : dR l p = (l.getD p 0).toNat ∨ (128 ≤ (l.getD p 0).toNat ∧ 128 ≤ dR l p) := by
  by_cases h : (l.getD p 0).toNat < 128
  · exact .inl (dR_byte h).1
  · refine .inr ⟨by omega, ?_⟩
    by_cases h2 : dR l p < 128
    · have := (dR_small h2).1; omega
    · omega

set_option maxHeartbeats 4000000 in
theorem refPhone_c {I : IM} {l : List UInt8} (hn : l.length ≤ 1000000) : Fun Tryd.prog 64 #[.string ⟨(l).toArray⟩] I (fun v J => v = .bool (phone l)) := by
 refine enter_rule 50 [(0, .string ⟨(l).toArray⟩)] Tryd.func64 rfl (by kernel_rfl) ?_
 intro w s
 refine seqR ?_
 refine oKD [] [] 1 [] 0 (fun φ1 => [(2, .bool false)]) (fun φ1 => []) s (fun φ1 => by kernel_rfl) (by kernel_rfl) ?_
 intro φ1 w1 s
 refine seqR ?_
 refine oKD [] [] 1 [] 0 (fun φ2 => [(3, .int .i64 0)]) (fun φ2 => []) s (fun φ2 => by kernel_rfl) (by kernel_rfl) ?_
 intro φ2 w2 s
 refine wp_seq ?_
 refine seqR ?_
 refine oKD [] [] 1 [] 0 (fun φ3 => [(4, .int .i64 0)]) (fun φ3 => []) s (fun φ3 => by kernel_rfl) (by kernel_rfl) ?_
 intro φ3 w3 s
 refine wp_block ?_
 have hle4 := IM.Le.refl I
 refine loop_rule (fun (x : Nat × Nat) => [(0, .string ⟨(l).toArray⟩), (2, .bool false), (4, .int .i64 x.1), (3, .int .i64 x.2)]) (fun (x : Nat × Nat) => []) (fun m (x : Nat × Nat) J => IM.Le I J ∧ l.length ≤ x.1 + m ∧ phI l x.1 x.2 ∧ x.2 ≤ x.1) (l.length) (0, 0) s (by kernel_rfl) List.Sublist.slnil ⟨IM.Le.refl _, by omega, ph_start l, Nat.le_refl _⟩ ?_
 rintro m5 ⟨i5, d5⟩ I5 w5 ev5 s ⟨le5, hi5_0, hi5_1, hi5_2⟩
 try dsimp only at s hi5_0 hi5_1 hi5_2 ⊢
 replace hle4 := leMono le5 hle4
 refine wp_seq ?_
 refine seqR ?_
 refine oK [] [] 4 [] 0 (fun φ6 => [(8, .bool (decide (((i5 : Nat) : Int) < ((l.length : Nat) : Int)))), (7, .int .i64 l.length), (6, .string ⟨(l).toArray⟩), (5, .int .i64 i5)]) (fun φ6 => []) s (fun φ6 => by kernel_rfl) ?_
 intro φ6 w6 s
 rw [nat_lss (a := i5) (b := l.length)]
 refine ops_done (by kernel_rfl) ?_
 rcases Bool.eq_false_or_eq_true (decide (i5 < l.length)) with hc7 | hc7
 ·
  rw [hc7]
  refine cond_true_rule (b := true) (by kernel_rfl) rfl ?_
  refine wp_skip ?_
  refine wp_seq ?_
  refine wp_block ?_
  refine seqR ?_
  refine oK [] [] 2 [] 0 (fun φ8 => [(12, .int .i64 i5), (11, .string ⟨(l).toArray⟩)]) (fun φ8 => []) s (fun φ8 => by kernel_rfl) ?_
  intro φ8 w8 s
  refine sem_rule (Instr.index 9 (.string ⟨(l).toArray⟩) (.int .i64 i5)) (some 13) (.int .u8 (((l.getD i5 0).toNat : Nat) : Int)) (by kernel_rfl) (run_idxK (s := l) (i := i5) (by have hz0 := hi5_2;  have hq0 := dT9 hc7; (try simp only [List.length_drop, List.length_take, List.length_append, List.length_cons, List.length_nil]); omega)) ?_
  refine oK [] [] 2 [] 0 (fun φ9 => [(15, .bool (decide ((((l.getD i5 0).toNat : Nat) : Int) ≥ ((48 : Nat) : Int)))), (14, .bool (decide ((((l.getD i5 0).toNat : Nat) : Int) ≥ ((48 : Nat) : Int))))]) (fun φ9 => []) s (fun φ9 => by kernel_rfl) ?_
  intro φ9 w9 s
  rw [nat_geq (a := ((l.getD i5 0).toNat)) (b := 48)]
  rcases Bool.eq_false_or_eq_true (decide (48 ≤ ((l.getD i5 0).toNat))) with hc10 | hc10
  ·
   rw [hc10]
   refine oK [] [] 2 [] 0 (fun φ11 => [(17, .int .i64 i5), (16, .string ⟨(l).toArray⟩)]) (fun φ11 => []) s (fun φ11 => by kernel_rfl) ?_
   intro φ11 w11 s
   refine sem_rule (Instr.index 9 (.string ⟨(l).toArray⟩) (.int .i64 i5)) (some 18) (.int .u8 (((l.getD i5 0).toNat : Nat) : Int)) (by kernel_rfl) (run_idxK (s := l) (i := i5) (by have hz0 := hi5_2;  have hq0 := dT9 hc7; have hq1 := dT9 hc10; (try simp only [List.length_drop, List.length_take, List.length_append, List.length_cons, List.length_nil]); omega)) ?_
   refine oK [] [] 2 [] 0 (fun φ12 => [(20, .bool (decide ((((l.getD i5 0).toNat : Nat) : Int) ≤ ((57 : Nat) : Int)))), (19, .bool (decide ((((l.getD i5 0).toNat : Nat) : Int) ≤ ((57 : Nat) : Int))))]) (fun φ12 => []) s (fun φ12 => by kernel_rfl) ?_
   intro φ12 w12 s
   rw [nat_leq (a := ((l.getD i5 0).toNat)) (b := 57)]
   refine ops_done (by kernel_rfl) ?_
   rcases Bool.eq_false_or_eq_true (decide (((l.getD i5 0).toNat) ≤ 57)) with hc13 | hc13
   ·
    rw [hc13]
    refine cond_true_rule (b := true) (by kernel_rfl) rfl ?_
    refine region_rule ?_
    refine oK [] [] 3 [] 0 (fun φ14 => [(3, .int .i64 (IntKind.wrap .i64 (((d5 : Nat) : Int) + ((1 : Nat) : Int)))), (22, .int .i64 (IntKind.wrap .i64 (((d5 : Nat) : Int) + ((1 : Nat) : Int)))), (21, .int .i64 d5)]) (fun φ14 => []) s (fun φ14 => by kernel_rfl) ?_
    intro φ14 w14 s
    rw [nat_addI (a := d5) (b := 1) (by have hz0 := hi5_2;  have hq0 := dT9 hc7; have hq1 := dT9 hc10; have hq2 := dT9 hc13; omega)]
    refine ops_done (by kernel_rfl) ?_
    refine region_rule ?_
    refine oK [] [] 3 [] 0 (fun φ15 => [(4, .int .i64 (IntKind.wrap .i64 (((i5 : Nat) : Int) + ((1 : Nat) : Int)))), (10, .int .i64 (IntKind.wrap .i64 (((i5 : Nat) : Int) + ((1 : Nat) : Int)))), (9, .int .i64 i5)]) (fun φ15 => []) s (fun φ15 => by kernel_rfl) ?_
    intro φ15 w15 s
    rw [nat_addI (a := i5) (b := 1) (by have hz0 := hi5_2;  have hq0 := dT9 hc7; have hq1 := dT9 hc10; have hq2 := dT9 hc13; omega)]
    refine ops_done (by kernel_rfl) ?_
    have hq9 := dT9 hc7
    have hb9 := byte_lt (l.getD i5 0)
    exact ⟨⟨m5 - 1, (i5 + 1, d5 + 1), _, _, _, by omega, rfl, s, List.Sublist.slnil, by kernel_rfl, hle4, by show l.length ≤ i5 + 1 + (m5 - 1); omega, ph_dig hq9 (by have hq0 := dT9 hc7; have hq1 := dT9 hc10; have hq2 := dT9 hc13; omega) hi5_1, by have h8 := hi5_2; show d5 + 1 ≤ i5 + 1; omega⟩⟩
   ·
    rw [hc13]
    refine cond_false_rule (b := false) (by kernel_rfl) rfl ?_
    refine seqR ?_
    refine oK [] [] 2 [] 0 (fun φ16 => [(24, .int .i64 i5), (23, .string ⟨(l).toArray⟩)]) (fun φ16 => []) s (fun φ16 => by kernel_rfl) ?_
    intro φ16 w16 s
    refine sem_rule (Instr.index 9 (.string ⟨(l).toArray⟩) (.int .i64 i5)) (some 25) (.int .u8 (((l.getD i5 0).toNat : Nat) : Int)) (by kernel_rfl) (run_idxK (s := l) (i := i5) (by have hz0 := hi5_2;  have hq0 := dT9 hc7; have hq1 := dT9 hc10; have hq2 := dF9 hc13; (try simp only [List.length_drop, List.length_take, List.length_append, List.length_cons, List.length_nil]); omega)) ?_
    refine oK [] [] 2 [] 0 (fun φ17 => [(27, .bool ((((l.getD i5 0).toNat : Nat) : Int) != ((32 : Nat) : Int))), (26, .bool ((((l.getD i5 0).toNat : Nat) : Int) != ((32 : Nat) : Int)))]) (fun φ17 => []) s (fun φ17 => by kernel_rfl) ?_
    intro φ17 w17 s
    rw [nat_neq (a := ((l.getD i5 0).toNat)) (b := 32)]
    rcases Bool.eq_false_or_eq_true (decide (((l.getD i5 0).toNat) ≠ 32)) with hc18 | hc18
    ·
     rw [hc18]
     refine oK [] [] 2 [] 0 (fun φ19 => [(29, .int .i64 i5), (28, .string ⟨(l).toArray⟩)]) (fun φ19 => []) s (fun φ19 => by kernel_rfl) ?_
     intro φ19 w19 s
     refine sem_rule (Instr.index 9 (.string ⟨(l).toArray⟩) (.int .i64 i5)) (some 30) (.int .u8 (((l.getD i5 0).toNat : Nat) : Int)) (by kernel_rfl) (run_idxK (s := l) (i := i5) (by have hz0 := hi5_2;  have hq0 := dT9 hc7; have hq1 := dT9 hc10; have hq2 := dF9 hc13; have hq3 := dT9 hc18; (try simp only [List.length_drop, List.length_take, List.length_append, List.length_cons, List.length_nil]); omega)) ?_
     refine oK [] [] 3 [] 0 (fun φ20 => [(33, .bool ((((l.getD i5 0).toNat : Nat) : Int) != ((45 : Nat) : Int))), (32, .bool ((((l.getD i5 0).toNat : Nat) : Int) != ((45 : Nat) : Int))), (31, .bool ((((l.getD i5 0).toNat : Nat) : Int) != ((45 : Nat) : Int)))]) (fun φ20 => []) s (fun φ20 => by kernel_rfl) ?_
     intro φ20 w20 s
     rw [nat_neq (a := ((l.getD i5 0).toNat)) (b := 45)]
     rcases Bool.eq_false_or_eq_true (decide (((l.getD i5 0).toNat) ≠ 45)) with hc21 | hc21
     ·
      rw [hc21]
      refine oK [] [] 2 [] 0 (fun φ22 => [(35, .int .i64 i5), (34, .string ⟨(l).toArray⟩)]) (fun φ22 => []) s (fun φ22 => by kernel_rfl) ?_
      intro φ22 w22 s
      refine sem_rule (Instr.index 9 (.string ⟨(l).toArray⟩) (.int .i64 i5)) (some 36) (.int .u8 (((l.getD i5 0).toNat : Nat) : Int)) (by kernel_rfl) (run_idxK (s := l) (i := i5) (by have hz0 := hi5_2;  have hq0 := dT9 hc7; have hq1 := dT9 hc10; have hq2 := dF9 hc13; have hq3 := dT9 hc18; have hq4 := dT9 hc21; (try simp only [List.length_drop, List.length_take, List.length_append, List.length_cons, List.length_nil]); omega)) ?_
      refine oK [] [] 2 [] 0 (fun φ23 => [(38, .bool ((((l.getD i5 0).toNat : Nat) : Int) != ((43 : Nat) : Int))), (37, .bool ((((l.getD i5 0).toNat : Nat) : Int) != ((43 : Nat) : Int)))]) (fun φ23 => []) s (fun φ23 => by kernel_rfl) ?_
      intro φ23 w23 s
      rw [nat_neq (a := ((l.getD i5 0).toNat)) (b := 43)]
      rcases Bool.eq_false_or_eq_true (decide (((l.getD i5 0).toNat) ≠ 43)) with hc24 | hc24
      ·
       rw [hc24]
       refine oKD [] [] 4 [] 0 (fun φ25 => [(42, .bool true), (41, .bool true), (40, undef), (39, undef)]) (fun φ25 => []) s (fun φ25 => by kernel_rfl) (by kernel_rfl) ?_
       intro φ25 w25 s
       refine cond_true_rule (b := true) (by kernel_rfl) rfl ?_
       refine seqR ?_
       refine oKD [] [] 1 [] 0 (fun φ26 => [(2, .bool false)]) (fun φ26 => []) s (fun φ26 => by kernel_rfl) (by kernel_rfl) ?_
       intro φ26 w26 s
       refine wp_ret ?_
       refine ret_rule (C := []) [] [] (.bool false) [] [] s trivial (by kernel_rfl) ?_
       exact ⟨_, _, _, rfl, s, (congrArg Value.bool (ph_bad (dT9 hc7) (by have hb9 := byte_lt (l.getD i5 0); have hq0 := dT9 hc7; have hq1 := dT9 hc10; have hq2 := dF9 hc13; have hq3 := dT9 hc18; have hq4 := dT9 hc21; have hq5 := dT9 hc24; omega) (by have hq0 := dT9 hc7; have hq1 := dT9 hc10; have hq2 := dF9 hc13; have hq3 := dT9 hc18; have hq4 := dT9 hc21; have hq5 := dT9 hc24; omega) hi5_1).symm)⟩
      ·
       rw [hc24]
       refine oK [] [] 4 [] 0 (fun φ27 => [(42, .bool (decide (((i5 : Nat) : Int) > ((0 : Nat) : Int)))), (41, .bool (decide (((i5 : Nat) : Int) > ((0 : Nat) : Int)))), (40, .bool (decide (((i5 : Nat) : Int) > ((0 : Nat) : Int)))), (39, .int .i64 i5)]) (fun φ27 => []) s (fun φ27 => by kernel_rfl) ?_
       intro φ27 w27 s
       rw [nat_gtr (a := i5) (b := 0)]
       refine ops_done (by kernel_rfl) ?_
       rcases Bool.eq_false_or_eq_true (decide (0 < i5)) with hc28 | hc28
       ·
        rw [hc28]
        refine cond_true_rule (b := true) (by kernel_rfl) rfl ?_
        refine seqR ?_
        refine oKD [] [] 1 [] 0 (fun φ29 => [(2, .bool false)]) (fun φ29 => []) s (fun φ29 => by kernel_rfl) (by kernel_rfl) ?_
        intro φ29 w29 s
        refine wp_ret ?_
        refine ret_rule (C := []) [] [] (.bool false) [] [] s trivial (by kernel_rfl) ?_
        exact ⟨_, _, _, rfl, s, (congrArg Value.bool (ph_bad (dT9 hc7) (by have hb9 := byte_lt (l.getD i5 0); have hq0 := dT9 hc7; have hq1 := dT9 hc10; have hq2 := dF9 hc13; have hq3 := dT9 hc18; have hq4 := dT9 hc21; have hq5 := dF9 hc24; have hq6 := dT9 hc28; omega) (by have hq0 := dT9 hc7; have hq1 := dT9 hc10; have hq2 := dF9 hc13; have hq3 := dT9 hc18; have hq4 := dT9 hc21; have hq5 := dF9 hc24; have hq6 := dT9 hc28; omega) hi5_1).symm)⟩
       ·
        rw [hc28]
        refine cond_false_rule (b := false) (by kernel_rfl) rfl ?_
        refine wp_skip ?_
        refine region_rule ?_
        refine oK [] [] 3 [] 0 (fun φ30 => [(4, .int .i64 (IntKind.wrap .i64 (((i5 : Nat) : Int) + ((1 : Nat) : Int)))), (10, .int .i64 (IntKind.wrap .i64 (((i5 : Nat) : Int) + ((1 : Nat) : Int)))), (9, .int .i64 i5)]) (fun φ30 => []) s (fun φ30 => by kernel_rfl) ?_
        intro φ30 w30 s
        rw [nat_addI (a := i5) (b := 1) (by have hz0 := hi5_2;  have hq0 := dT9 hc7; have hq1 := dT9 hc10; have hq2 := dF9 hc13; have hq3 := dT9 hc18; have hq4 := dT9 hc21; have hq5 := dF9 hc24; have hq6 := dF9 hc28; omega)]
        refine ops_done (by kernel_rfl) ?_
        have hq9 := dT9 hc7
        have hb9 := byte_lt (l.getD i5 0)
        exact ⟨⟨m5 - 1, (i5 + 1, d5), _, _, _, by omega, rfl, s, List.Sublist.slnil, by kernel_rfl, hle4, by show l.length ≤ i5 + 1 + (m5 - 1); omega, ph_skip hq9 (by have hq0 := dT9 hc7; have hq1 := dT9 hc10; have hq2 := dF9 hc13; have hq3 := dT9 hc18; have hq4 := dT9 hc21; have hq5 := dF9 hc24; have hq6 := dF9 hc28; omega) (by have hq0 := dT9 hc7; have hq1 := dT9 hc10; have hq2 := dF9 hc13; have hq3 := dT9 hc18; have hq4 := dT9 hc21; have hq5 := dF9 hc24; have hq6 := dF9 hc28; omega) hi5_1, by have h8 := hi5_2; show d5 ≤ i5 + 1; omega⟩⟩
     ·
      rw [hc21]
      refine oKD [] [] 9 [] 0 (fun φ31 => [(42, .bool false), (41, undef), (40, undef), (39, undef), (38, undef), (37, undef), (36, undef), (35, undef), (34, undef)]) (fun φ31 => []) s (fun φ31 => by kernel_rfl) (by kernel_rfl) ?_
      intro φ31 w31 s
      refine cond_false_rule (b := false) (by kernel_rfl) rfl ?_
      refine wp_skip ?_
      refine region_rule ?_
      refine oK [] [] 3 [] 0 (fun φ32 => [(4, .int .i64 (IntKind.wrap .i64 (((i5 : Nat) : Int) + ((1 : Nat) : Int)))), (10, .int .i64 (IntKind.wrap .i64 (((i5 : Nat) : Int) + ((1 : Nat) : Int)))), (9, .int .i64 i5)]) (fun φ32 => []) s (fun φ32 => by kernel_rfl) ?_
      intro φ32 w32 s
      rw [nat_addI (a := i5) (b := 1) (by have hz0 := hi5_2;  have hq0 := dT9 hc7; have hq1 := dT9 hc10; have hq2 := dF9 hc13; have hq3 := dT9 hc18; have hq4 := dF9 hc21; omega)]
      refine ops_done (by kernel_rfl) ?_
      have hq9 := dT9 hc7
      have hb9 := byte_lt (l.getD i5 0)
      exact ⟨⟨m5 - 1, (i5 + 1, d5), _, _, _, by omega, rfl, s, List.Sublist.slnil, by kernel_rfl, hle4, by show l.length ≤ i5 + 1 + (m5 - 1); omega, ph_skip hq9 (by have hq0 := dT9 hc7; have hq1 := dT9 hc10; have hq2 := dF9 hc13; have hq3 := dT9 hc18; have hq4 := dF9 hc21; omega) (by have hq0 := dT9 hc7; have hq1 := dT9 hc10; have hq2 := dF9 hc13; have hq3 := dT9 hc18; have hq4 := dF9 hc21; omega) hi5_1, by have h8 := hi5_2; show d5 ≤ i5 + 1; omega⟩⟩
    ·
     rw [hc18]
     refine oKD [] [] 15 [] 0 (fun φ33 => [(42, .bool false), (41, undef), (40, undef), (39, undef), (38, undef), (37, undef), (36, undef), (35, undef), (34, undef), (33, .bool false), (32, .bool false), (31, undef), (30, undef), (29, undef), (28, undef)]) (fun φ33 => []) s (fun φ33 => by kernel_rfl) (by kernel_rfl) ?_
     intro φ33 w33 s
     refine cond_false_rule (b := false) (by kernel_rfl) rfl ?_
     refine wp_skip ?_
     refine region_rule ?_
     refine oK [] [] 3 [] 0 (fun φ34 => [(4, .int .i64 (IntKind.wrap .i64 (((i5 : Nat) : Int) + ((1 : Nat) : Int)))), (10, .int .i64 (IntKind.wrap .i64 (((i5 : Nat) : Int) + ((1 : Nat) : Int)))), (9, .int .i64 i5)]) (fun φ34 => []) s (fun φ34 => by kernel_rfl) ?_
     intro φ34 w34 s
     rw [nat_addI (a := i5) (b := 1) (by have hz0 := hi5_2;  have hq0 := dT9 hc7; have hq1 := dT9 hc10; have hq2 := dF9 hc13; have hq3 := dF9 hc18; omega)]
     refine ops_done (by kernel_rfl) ?_
     have hq9 := dT9 hc7
     have hb9 := byte_lt (l.getD i5 0)
     exact ⟨⟨m5 - 1, (i5 + 1, d5), _, _, _, by omega, rfl, s, List.Sublist.slnil, by kernel_rfl, hle4, by show l.length ≤ i5 + 1 + (m5 - 1); omega, ph_skip hq9 (by have hq0 := dT9 hc7; have hq1 := dT9 hc10; have hq2 := dF9 hc13; have hq3 := dF9 hc18; omega) (by have hq0 := dT9 hc7; have hq1 := dT9 hc10; have hq2 := dF9 hc13; have hq3 := dF9 hc18; omega) hi5_1, by have h8 := hi5_2; show d5 ≤ i5 + 1; omega⟩⟩
  ·
   rw [hc10]
   refine oKD [] [] 5 [] 0 (fun φ35 => [(20, .bool false), (19, undef), (18, undef), (17, undef), (16, undef)]) (fun φ35 => []) s (fun φ35 => by kernel_rfl) (by kernel_rfl) ?_
   intro φ35 w35 s
   refine cond_false_rule (b := false) (by kernel_rfl) rfl ?_
   refine seqR ?_
   refine oK [] [] 2 [] 0 (fun φ36 => [(24, .int .i64 i5), (23, .string ⟨(l).toArray⟩)]) (fun φ36 => []) s (fun φ36 => by kernel_rfl) ?_
   intro φ36 w36 s
   refine sem_rule (Instr.index 9 (.string ⟨(l).toArray⟩) (.int .i64 i5)) (some 25) (.int .u8 (((l.getD i5 0).toNat : Nat) : Int)) (by kernel_rfl) (run_idxK (s := l) (i := i5) (by have hz0 := hi5_2;  have hq0 := dT9 hc7; have hq1 := dF9 hc10; (try simp only [List.length_drop, List.length_take, List.length_append, List.length_cons, List.length_nil]); omega)) ?_
   refine oK [] [] 2 [] 0 (fun φ37 => [(27, .bool ((((l.getD i5 0).toNat : Nat) : Int) != ((32 : Nat) : Int))), (26, .bool ((((l.getD i5 0).toNat : Nat) : Int) != ((32 : Nat) : Int)))]) (fun φ37 => []) s (fun φ37 => by kernel_rfl) ?_
   intro φ37 w37 s
   rw [nat_neq (a := ((l.getD i5 0).toNat)) (b := 32)]
   rcases Bool.eq_false_or_eq_true (decide (((l.getD i5 0).toNat) ≠ 32)) with hc38 | hc38
   ·
    rw [hc38]
    refine oK [] [] 2 [] 0 (fun φ39 => [(29, .int .i64 i5), (28, .string ⟨(l).toArray⟩)]) (fun φ39 => []) s (fun φ39 => by kernel_rfl) ?_
    intro φ39 w39 s
    refine sem_rule (Instr.index 9 (.string ⟨(l).toArray⟩) (.int .i64 i5)) (some 30) (.int .u8 (((l.getD i5 0).toNat : Nat) : Int)) (by kernel_rfl) (run_idxK (s := l) (i := i5) (by have hz0 := hi5_2;  have hq0 := dT9 hc7; have hq1 := dF9 hc10; have hq2 := dT9 hc38; (try simp only [List.length_drop, List.length_take, List.length_append, List.length_cons, List.length_nil]); omega)) ?_
    refine oK [] [] 3 [] 0 (fun φ40 => [(33, .bool ((((l.getD i5 0).toNat : Nat) : Int) != ((45 : Nat) : Int))), (32, .bool ((((l.getD i5 0).toNat : Nat) : Int) != ((45 : Nat) : Int))), (31, .bool ((((l.getD i5 0).toNat : Nat) : Int) != ((45 : Nat) : Int)))]) (fun φ40 => []) s (fun φ40 => by kernel_rfl) ?_
    intro φ40 w40 s
    rw [nat_neq (a := ((l.getD i5 0).toNat)) (b := 45)]
    rcases Bool.eq_false_or_eq_true (decide (((l.getD i5 0).toNat) ≠ 45)) with hc41 | hc41
    ·
     rw [hc41]
     refine oK [] [] 2 [] 0 (fun φ42 => [(35, .int .i64 i5), (34, .string ⟨(l).toArray⟩)]) (fun φ42 => []) s (fun φ42 => by kernel_rfl) ?_
     intro φ42 w42 s
     refine sem_rule (Instr.index 9 (.string ⟨(l).toArray⟩) (.int .i64 i5)) (some 36) (.int .u8 (((l.getD i5 0).toNat : Nat) : Int)) (by kernel_rfl) (run_idxK (s := l) (i := i5) (by have hz0 := hi5_2;  have hq0 := dT9 hc7; have hq1 := dF9 hc10; have hq2 := dT9 hc38; have hq3 := dT9 hc41; (try simp only [List.length_drop, List.length_take, List.length_append, List.length_cons, List.length_nil]); omega)) ?_
     refine oK [] [] 2 [] 0 (fun φ43 => [(38, .bool ((((l.getD i5 0).toNat : Nat) : Int) != ((43 : Nat) : Int))), (37, .bool ((((l.getD i5 0).toNat : Nat) : Int) != ((43 : Nat) : Int)))]) (fun φ43 => []) s (fun φ43 => by kernel_rfl) ?_
     intro φ43 w43 s
     rw [nat_neq (a := ((l.getD i5 0).toNat)) (b := 43)]
     rcases Bool.eq_false_or_eq_true (decide (((l.getD i5 0).toNat) ≠ 43)) with hc44 | hc44
     ·
      rw [hc44]
      refine oKD [] [] 4 [] 0 (fun φ45 => [(42, .bool true), (41, .bool true), (40, undef), (39, undef)]) (fun φ45 => []) s (fun φ45 => by kernel_rfl) (by kernel_rfl) ?_
      intro φ45 w45 s
      refine cond_true_rule (b := true) (by kernel_rfl) rfl ?_
      refine seqR ?_
      refine oKD [] [] 1 [] 0 (fun φ46 => [(2, .bool false)]) (fun φ46 => []) s (fun φ46 => by kernel_rfl) (by kernel_rfl) ?_
      intro φ46 w46 s
      refine wp_ret ?_
      refine ret_rule (C := []) [] [] (.bool false) [] [] s trivial (by kernel_rfl) ?_
      exact ⟨_, _, _, rfl, s, (congrArg Value.bool (ph_bad (dT9 hc7) (by have hb9 := byte_lt (l.getD i5 0); have hq0 := dT9 hc7; have hq1 := dF9 hc10; have hq2 := dT9 hc38; have hq3 := dT9 hc41; have hq4 := dT9 hc44; omega) (by have hq0 := dT9 hc7; have hq1 := dF9 hc10; have hq2 := dT9 hc38; have hq3 := dT9 hc41; have hq4 := dT9 hc44; omega) hi5_1).symm)⟩
     ·
      rw [hc44]
      refine oK [] [] 4 [] 0 (fun φ47 => [(42, .bool (decide (((i5 : Nat) : Int) > ((0 : Nat) : Int)))), (41, .bool (decide (((i5 : Nat) : Int) > ((0 : Nat) : Int)))), (40, .bool (decide (((i5 : Nat) : Int) > ((0 : Nat) : Int)))), (39, .int .i64 i5)]) (fun φ47 => []) s (fun φ47 => by kernel_rfl) ?_
      intro φ47 w47 s
      rw [nat_gtr (a := i5) (b := 0)]
      refine ops_done (by kernel_rfl) ?_
      rcases Bool.eq_false_or_eq_true (decide (0 < i5)) with hc48 | hc48
      ·
       rw [hc48]
       refine cond_true_rule (b := true) (by kernel_rfl) rfl ?_
       refine seqR ?_
       refine oKD [] [] 1 [] 0 (fun φ49 => [(2, .bool false)]) (fun φ49 => []) s (fun φ49 => by kernel_rfl) (by kernel_rfl) ?_
       intro φ49 w49 s
       refine wp_ret ?_
       refine ret_rule (C := []) [] [] (.bool false) [] [] s trivial (by kernel_rfl) ?_
       exact ⟨_, _, _, rfl, s, (congrArg Value.bool (ph_bad (dT9 hc7) (by have hb9 := byte_lt (l.getD i5 0); have hq0 := dT9 hc7; have hq1 := dF9 hc10; have hq2 := dT9 hc38; have hq3 := dT9 hc41; have hq4 := dF9 hc44; have hq5 := dT9 hc48; omega) (by have hq0 := dT9 hc7; have hq1 := dF9 hc10; have hq2 := dT9 hc38; have hq3 := dT9 hc41; have hq4 := dF9 hc44; have hq5 := dT9 hc48; omega) hi5_1).symm)⟩
      ·
       rw [hc48]
       refine cond_false_rule (b := false) (by kernel_rfl) rfl ?_
       refine wp_skip ?_
       refine region_rule ?_
       refine oK [] [] 3 [] 0 (fun φ50 => [(4, .int .i64 (IntKind.wrap .i64 (((i5 : Nat) : Int) + ((1 : Nat) : Int)))), (10, .int .i64 (IntKind.wrap .i64 (((i5 : Nat) : Int) + ((1 : Nat) : Int)))), (9, .int .i64 i5)]) (fun φ50 => []) s (fun φ50 => by kernel_rfl) ?_
       intro φ50 w50 s
       rw [nat_addI (a := i5) (b := 1) (by have hz0 := hi5_2;  have hq0 := dT9 hc7; have hq1 := dF9 hc10; have hq2 := dT9 hc38; have hq3 := dT9 hc41; have hq4 := dF9 hc44; have hq5 := dF9 hc48; omega)]
       refine ops_done (by kernel_rfl) ?_
       have hq9 := dT9 hc7
       have hb9 := byte_lt (l.getD i5 0)
       exact ⟨⟨m5 - 1, (i5 + 1, d5), _, _, _, by omega, rfl, s, List.Sublist.slnil, by kernel_rfl, hle4, by show l.length ≤ i5 + 1 + (m5 - 1); omega, ph_skip hq9 (by have hq0 := dT9 hc7; have hq1 := dF9 hc10; have hq2 := dT9 hc38; have hq3 := dT9 hc41; have hq4 := dF9 hc44; have hq5 := dF9 hc48; omega) (by have hq0 := dT9 hc7; have hq1 := dF9 hc10; have hq2 := dT9 hc38; have hq3 := dT9 hc41; have hq4 := dF9 hc44; have hq5 := dF9 hc48; omega) hi5_1, by have h8 := hi5_2; show d5 ≤ i5 + 1; omega⟩⟩
    ·
     rw [hc41]
     refine oKD [] [] 9 [] 0 (fun φ51 => [(42, .bool false), (41, undef), (40, undef), (39, undef), (38, undef), (37, undef), (36, undef), (35, undef), (34, undef)]) (fun φ51 => []) s (fun φ51 => by kernel_rfl) (by kernel_rfl) ?_
     intro φ51 w51 s
     refine cond_false_rule (b := false) (by kernel_rfl) rfl ?_
     refine wp_skip ?_
     refine region_rule ?_
     refine oK [] [] 3 [] 0 (fun φ52 => [(4, .int .i64 (IntKind.wrap .i64 (((i5 : Nat) : Int) + ((1 : Nat) : Int)))), (10, .int .i64 (IntKind.wrap .i64 (((i5 : Nat) : Int) + ((1 : Nat) : Int)))), (9, .int .i64 i5)]) (fun φ52 => []) s (fun φ52 => by kernel_rfl) ?_
     intro φ52 w52 s
     rw [nat_addI (a := i5) (b := 1) (by have hz0 := hi5_2;  have hq0 := dT9 hc7; have hq1 := dF9 hc10; have hq2 := dT9 hc38; have hq3 := dF9 hc41; omega)]
     refine ops_done (by kernel_rfl) ?_
     have hq9 := dT9 hc7
     have hb9 := byte_lt (l.getD i5 0)
     exact ⟨⟨m5 - 1, (i5 + 1, d5), _, _, _, by omega, rfl, s, List.Sublist.slnil, by kernel_rfl, hle4, by show l.length ≤ i5 + 1 + (m5 - 1); omega, ph_skip hq9 (by have hq0 := dT9 hc7; have hq1 := dF9 hc10; have hq2 := dT9 hc38; have hq3 := dF9 hc41; omega) (by have hq0 := dT9 hc7; have hq1 := dF9 hc10; have hq2 := dT9 hc38; have hq3 := dF9 hc41; omega) hi5_1, by have h8 := hi5_2; show d5 ≤ i5 + 1; omega⟩⟩
   ·
    rw [hc38]
    refine oKD [] [] 15 [] 0 (fun φ53 => [(42, .bool false), (41, undef), (40, undef), (39, undef), (38, undef), (37, undef), (36, undef), (35, undef), (34, undef), (33, .bool false), (32, .bool false), (31, undef), (30, undef), (29, undef), (28, undef)]) (fun φ53 => []) s (fun φ53 => by kernel_rfl) (by kernel_rfl) ?_
    intro φ53 w53 s
    refine cond_false_rule (b := false) (by kernel_rfl) rfl ?_
    refine wp_skip ?_
    refine region_rule ?_
    refine oK [] [] 3 [] 0 (fun φ54 => [(4, .int .i64 (IntKind.wrap .i64 (((i5 : Nat) : Int) + ((1 : Nat) : Int)))), (10, .int .i64 (IntKind.wrap .i64 (((i5 : Nat) : Int) + ((1 : Nat) : Int)))), (9, .int .i64 i5)]) (fun φ54 => []) s (fun φ54 => by kernel_rfl) ?_
    intro φ54 w54 s
    rw [nat_addI (a := i5) (b := 1) (by have hz0 := hi5_2;  have hq0 := dT9 hc7; have hq1 := dF9 hc10; have hq2 := dF9 hc38; omega)]
    refine ops_done (by kernel_rfl) ?_
    have hq9 := dT9 hc7
    have hb9 := byte_lt (l.getD i5 0)
    exact ⟨⟨m5 - 1, (i5 + 1, d5), _, _, _, by omega, rfl, s, List.Sublist.slnil, by kernel_rfl, hle4, by show l.length ≤ i5 + 1 + (m5 - 1); omega, ph_skip hq9 (by have hq0 := dT9 hc7; have hq1 := dF9 hc10; have hq2 := dF9 hc38; omega) (by have hq0 := dT9 hc7; have hq1 := dF9 hc10; have hq2 := dF9 hc38; omega) hi5_1, by have h8 := hi5_2; show d5 ≤ i5 + 1; omega⟩⟩
 ·
  rw [hc7]
  refine cond_false_rule (b := false) (by kernel_rfl) rfl ?_
  refine wp_exit ?_
  refine seqR ?_
  refine oK [] [] 3 [] 0 (fun φ55 => [(45, .bool (decide (((d5 : Nat) : Int) > ((0 : Nat) : Int)))), (44, .bool (decide (((d5 : Nat) : Int) > ((0 : Nat) : Int)))), (43, .int .i64 d5)]) (fun φ55 => []) s (fun φ55 => by kernel_rfl) ?_
  intro φ55 w55 s
  rw [nat_gtr (a := d5) (b := 0)]
  rcases Bool.eq_false_or_eq_true (decide (0 < d5)) with hc56 | hc56
  ·
   rw [hc56]
   refine oK [] [] 5 [] 0 (fun φ57 => [(2, .bool (decide (((l.length : Nat) : Int) ≤ ((20 : Nat) : Int)))), (49, .bool (decide (((l.length : Nat) : Int) ≤ ((20 : Nat) : Int)))), (48, .bool (decide (((l.length : Nat) : Int) ≤ ((20 : Nat) : Int)))), (47, .int .i64 l.length), (46, .string ⟨(l).toArray⟩)]) (fun φ57 => []) s (fun φ57 => by kernel_rfl) ?_
   intro φ57 w57 s
   rw [nat_leq (a := l.length) (b := 20)]
   refine ops_done (by kernel_rfl) ?_
   refine wp_ret ?_
   refine ret_rule (C := []) [] [] (.bool (decide (l.length ≤ 20))) [] [] s trivial (by kernel_rfl) ?_
   exact ⟨_, _, _, rfl, s, (congrArg Value.bool (by rw [ph_fin (ph_end (dF9 hc7) hi5_1)]; have hq0 := dF9 hc7; have hq1 := dT9 hc56; rw [decide_eq_true (show 0 < d5 by omega), Bool.true_and]))⟩
  ·
   rw [hc56]
   refine oKD [] [] 5 [] 0 (fun φ58 => [(2, .bool false), (49, .bool false), (48, undef), (47, undef), (46, undef)]) (fun φ58 => []) s (fun φ58 => by kernel_rfl) (by kernel_rfl) ?_
   intro φ58 w58 s
   refine wp_ret ?_
   refine ret_rule (C := []) [] [] (.bool false) [] [] s trivial (by kernel_rfl) ?_
   exact ⟨_, _, _, rfl, s, (congrArg Value.bool (by rw [ph_fin (ph_end (dF9 hc7) hi5_1)]; have hq0 := dF9 hc7; have hq1 := dF9 hc56; rw [decide_eq_false (by omega), Bool.false_and]))⟩

set_option maxHeartbeats 4000000 in
theorem phone_c {I : IM} {l : List UInt8} (hn : l.length ≤ 1000000) : Fun Tryd.prog 101 #[.string ⟨(l).toArray⟩] I (fun v J => v = .bool (phone l)) := by
 refine enter_rule 40 [(0, .string ⟨(l).toArray⟩)] Tryd.func101 rfl (by kernel_rfl) ?_
 intro w s
 refine seqR ?_
 refine oKD [] [] 1 [] 0 (fun φ1 => [(2, .bool false)]) (fun φ1 => []) s (fun φ1 => by kernel_rfl) (by kernel_rfl) ?_
 intro φ1 w1 s
 refine wp_seq ?_
 refine seqR ?_
 refine oK [] [] 1 [] 0 (fun φ2 => [(6, .string ⟨(l).toArray⟩)]) (fun φ2 => []) s (fun φ2 => by kernel_rfl) ?_
 intro φ2 w2 s
 refine call_rule (some 7) s (runes_c (l := l) (by omega)) (by kernel_rfl) ?_
 intro v3 I3 w3 le3 h3 s
 obtain rfl := h3
 refine oK [] [] 1 [] 0 (fun φ4 => [(8, .bool (decide (((nR l : Nat) : Int) > ((20 : Nat) : Int))))]) (fun φ4 => []) s (fun φ4 => by kernel_rfl) ?_
 intro φ4 w4 s
 rw [nat_gtr (a := (nR l)) (b := 20)]
 refine ops_done (by kernel_rfl) ?_
 rcases Bool.eq_false_or_eq_true (decide (20 < (nR l))) with hc5 | hc5
 ·
  rw [hc5]
  refine cond_true_rule (b := true) (by kernel_rfl) rfl ?_
  refine seqR ?_
  refine oKD [] [] 1 [] 0 (fun φ6 => [(2, .bool false)]) (fun φ6 => []) s (fun φ6 => by kernel_rfl) (by kernel_rfl) ?_
  intro φ6 w6 s
  refine wp_ret ?_
  refine ret_rule (C := []) [] [] (.bool false) [] [] s trivial (by kernel_rfl) ?_
  exact ⟨_, _, _, rfl, s, (congrArg Value.bool (ph_long (by have hq0 := dT9 hc5; omega)).symm)⟩
 ·
  rw [hc5]
  refine cond_false_rule (b := false) (by kernel_rfl) rfl ?_
  refine wp_skip ?_
  refine seqR ?_
  refine oKD [] [] 1 [] 0 (fun φ7 => [(3, .int .i64 0)]) (fun φ7 => []) s (fun φ7 => by kernel_rfl) (by kernel_rfl) ?_
  intro φ7 w7 s
  refine wp_seq ?_
  refine seqR ?_
  refine oK [] [] 1 [] 0 (fun φ8 => [(9, .string ⟨(l).toArray⟩)]) (fun φ8 => []) s (fun φ8 => by kernel_rfl) ?_
  intro φ8 w8 s
  obtain ⟨k9, w9, hr9, s⟩ := range_new (H := []) s ⟨(l).toArray⟩
  refine sem_rule (Instr.range 9 (.string ⟨(l).toArray⟩)) (some 10) (.pointer (some ⟨k9, 0, none⟩)) (by kernel_rfl) hr9 ?_
  refine ops_done (by kernel_rfl) ?_
  refine wp_block ?_
  have hle10 := IM.Le.refl I3
  refine loop_rule (fun (x : Nat × Nat) => [(0, .string ⟨(l).toArray⟩), (2, .bool false), (10, .pointer (some ⟨k9, 0, none⟩)), (3, .int .i64 ((x.2 : Nat) : Int))]) (fun (x : Nat × Nat) => [(k9, .stringIter ⟨(l).toArray⟩ x.1)]) (fun m (x : Nat × Nat) J => IM.Le I3 J ∧ l.length ≤ x.1 + m ∧ phI l x.1 x.2 ∧ x.2 ≤ x.1) (l.length) (0, 0) s (by kernel_rfl) (List.Sublist.cons₂ _ List.Sublist.slnil) ⟨IM.Le.refl _, by omega, ph_start l, Nat.le_refl _⟩ ?_
  rintro m11 ⟨p11, d11⟩ I11 w11 ev11 s ⟨le11, hi11_0, hi11_1, hi11_2⟩
  try dsimp only at s hi11_0 hi11_1 hi11_2 ⊢
  replace hle10 := leMono le11 hle10
  refine seqR ?_
  rcases Bool.eq_false_or_eq_true (decide (p11 < l.length)) with hc12 | hc12
  ·
   obtain ⟨w13, hr13, s⟩ := next_own (k := k9) (pos := p11) (l := l) (ty := 0) s (dT9 hc12)
   refine sem_rule (Instr.next (.pointer (some ⟨k9, 0, none⟩)) true 0) (some 11) (.tuple #[.bool true, .int .i64 ((p11 : Nat) : Int), .int .i32 ((dR l p11 : Nat) : Int)]) (by kernel_rfl) hr13 ?_
   refine oKD _ [] 1 [] 0 (fun φ14 => [(12, .bool true)]) (fun φ14 => []) s (fun φ14 => by kernel_rfl) (by kernel_rfl) ?_
   intro φ14 w14 s
   refine wp_seq ?_
   refine cond_true_rule (b := true) (by kernel_rfl) rfl ?_
   refine wp_skip ?_
   refine wp_block ?_
   refine seqR ?_
   refine oKD _ [] 4 [] 0 (fun φ15 => [(5, .int .i32 (dR l p11)), (4, .int .i64 p11), (14, .int .i32 (dR l p11)), (13, .int .i64 p11)]) (fun φ15 => []) s (fun φ15 => by kernel_rfl) (by kernel_rfl) ?_
   intro φ15 w15 s
   refine wp_block ?_
   refine seqR ?_
   refine oK _ [] 3 [] 0 (fun φ16 => [(18, .bool (decide (((48 : Nat) : Int) ≤ ((dR l p11 : Nat) : Int)))), (17, .bool (decide (((48 : Nat) : Int) ≤ ((dR l p11 : Nat) : Int)))), (16, .int .i32 (dR l p11))]) (fun φ16 => []) s (fun φ16 => by kernel_rfl) ?_
   intro φ16 w16 s
   rw [nat_leq (a := 48) (b := (dR l p11))]
   rcases Bool.eq_false_or_eq_true (decide (48 ≤ (dR l p11))) with hc17 | hc17
   ·
    rw [hc17]
    refine oK _ [] 4 [] 0 (fun φ18 => [(15, .bool (decide (((dR l p11 : Nat) : Int) ≤ ((57 : Nat) : Int)))), (21, .bool (decide (((dR l p11 : Nat) : Int) ≤ ((57 : Nat) : Int)))), (20, .bool (decide (((dR l p11 : Nat) : Int) ≤ ((57 : Nat) : Int)))), (19, .int .i32 (dR l p11))]) (fun φ18 => []) s (fun φ18 => by kernel_rfl) ?_
    intro φ18 w18 s
    rw [nat_leq (a := (dR l p11)) (b := 57)]
    refine ops_done (by kernel_rfl) ?_
    rcases Bool.eq_false_or_eq_true (decide ((dR l p11) ≤ 57)) with hc19 | hc19
    ·
     rw [hc19]
     refine cond_true_rule (b := true) (by kernel_rfl) rfl ?_
     refine region_rule ?_
     refine oK _ [] 3 [] 0 (fun φ20 => [(3, .int .i64 (IntKind.wrap .i64 (((d11 : Nat) : Int) + ((1 : Nat) : Int)))), (23, .int .i64 (IntKind.wrap .i64 (((d11 : Nat) : Int) + ((1 : Nat) : Int)))), (22, .int .i64 d11)]) (fun φ20 => []) s (fun φ20 => by kernel_rfl) ?_
     intro φ20 w20 s
     rw [nat_addI (a := d11) (b := 1) (by have hz0 := hi11_2;  have hq0 := dF9 hc5; have hq1 := dT9 hc12; have hq2 := dT9 hc17; have hq3 := dT9 hc19; omega)]
     refine ops_done (by kernel_rfl) ?_
     have hq9 := dT9 hc12
     have hs9 := dR_small (l := l) (p := p11) (by have hq0 := dF9 hc5; have hq1 := dT9 hc12; have hq2 := dT9 hc17; have hq3 := dT9 hc19; omega)
     exact ⟨⟨m11 - 1, (p11 + dW l p11, d11 + 1), _, _, _, by omega, rfl, s, (List.Sublist.cons₂ _ List.Sublist.slnil), by kernel_rfl, hle10, by show l.length ≤ p11 + dW l p11 + (m11 - 1); omega, by rw [hs9.2]; exact ph_dig hq9 (by have hq0 := dF9 hc5; have hq1 := dT9 hc12; have hq2 := dT9 hc17; have hq3 := dT9 hc19; omega) hi11_1, by have h8 := hi11_2; show d11 + 1 ≤ p11 + dW l p11; omega⟩⟩
    ·
     rw [hc19]
     refine cond_false_rule (b := false) (by kernel_rfl) rfl ?_
     refine seqR ?_
     refine oK _ [] 1 [] 0 (fun φ21 => [(25, .int .i32 (dR l p11))]) (fun φ21 => []) s (fun φ21 => by kernel_rfl) ?_
     intro φ21 w21 s
     refine call_rule (some 26) s (blank_c (x := dR l p11)) (by kernel_rfl) ?_
     intro v22 I22 w22 le22 h22 s
     replace hle10 := leMono le22 hle10
     obtain rfl := h22
     refine oK _ [] 1 [] 0 (fun φ23 => [(27, .bool (decide (dR l p11 = 32)))]) (fun φ23 => []) s (fun φ23 => by kernel_rfl) ?_
     intro φ23 w23 s
     rcases Bool.eq_false_or_eq_true (decide (dR l p11 = 32)) with hc24 | hc24
     ·
      rw [hc24]
      refine oKD _ [] 4 [] 0 (fun φ25 => [(24, .bool true), (30, .bool true), (29, undef), (28, undef)]) (fun φ25 => []) s (fun φ25 => by kernel_rfl) (by kernel_rfl) ?_
      intro φ25 w25 s
      refine cond_true_rule (b := true) (by kernel_rfl) rfl ?_
      refine wp_skip ?_
      have hq9 := dT9 hc12
      have hs9 := dR_small (l := l) (p := p11) (by have hq0 := dF9 hc5; have hq1 := dT9 hc12; have hq2 := dT9 hc17; have hq3 := dF9 hc19; have hq4 := dT9 hc24; omega)
      exact ⟨⟨m11 - 1, (p11 + dW l p11, d11), _, _, _, by omega, rfl, s, (List.Sublist.cons₂ _ List.Sublist.slnil), by kernel_rfl, hle10, by show l.length ≤ p11 + dW l p11 + (m11 - 1); omega, by rw [hs9.2]; exact ph_skip hq9 (by have hq0 := dF9 hc5; have hq1 := dT9 hc12; have hq2 := dT9 hc17; have hq3 := dF9 hc19; have hq4 := dT9 hc24; omega) (by have hq0 := dF9 hc5; have hq1 := dT9 hc12; have hq2 := dT9 hc17; have hq3 := dF9 hc19; have hq4 := dT9 hc24; omega) hi11_1, by have h8 := hi11_2; show d11 ≤ p11 + dW l p11; omega⟩⟩
     ·
      rw [hc24]
      refine oK _ [] 4 [] 0 (fun φ26 => [(24, .bool (((dR l p11 : Nat) : Int) == ((45 : Nat) : Int))), (30, .bool (((dR l p11 : Nat) : Int) == ((45 : Nat) : Int))), (29, .bool (((dR l p11 : Nat) : Int) == ((45 : Nat) : Int))), (28, .int .i32 (dR l p11))]) (fun φ26 => []) s (fun φ26 => by kernel_rfl) ?_
      intro φ26 w26 s
      rw [nat_eql (a := (dR l p11)) (b := 45)]
      refine ops_done (by kernel_rfl) ?_
      rcases Bool.eq_false_or_eq_true (decide ((dR l p11) = 45)) with hc27 | hc27
      ·
       exact absurd (dT9 hc27) (by have hq0 := dF9 hc5; have hq1 := dT9 hc12; have hq2 := dT9 hc17; have hq3 := dF9 hc19; have hq4 := dF9 hc24; omega)
      ·
       rw [hc27]
       refine cond_false_rule (b := false) (by kernel_rfl) rfl ?_
       refine seqR ?_
       refine oK _ [] 3 [] 0 (fun φ28 => [(34, .bool (((dR l p11 : Nat) : Int) == ((43 : Nat) : Int))), (33, .bool (((dR l p11 : Nat) : Int) == ((43 : Nat) : Int))), (32, .int .i32 (dR l p11))]) (fun φ28 => []) s (fun φ28 => by kernel_rfl) ?_
       intro φ28 w28 s
       rw [nat_eql (a := (dR l p11)) (b := 43)]
       rcases Bool.eq_false_or_eq_true (decide ((dR l p11) = 43)) with hc29 | hc29
       ·
        exact absurd (dT9 hc29) (by have hq0 := dF9 hc5; have hq1 := dT9 hc12; have hq2 := dT9 hc17; have hq3 := dF9 hc19; have hq4 := dF9 hc24; have hq5 := dF9 hc27; omega)
       ·
        rw [hc29]
        refine oKD _ [] 4 [] 0 (fun φ30 => [(31, .bool false), (37, .bool false), (36, undef), (35, undef)]) (fun φ30 => []) s (fun φ30 => by kernel_rfl) (by kernel_rfl) ?_
        intro φ30 w30 s
        refine cond_false_rule (b := false) (by kernel_rfl) rfl ?_
        refine seqR ?_
        refine oKD _ [] 1 [] 0 (fun φ31 => [(2, .bool false)]) (fun φ31 => []) s (fun φ31 => by kernel_rfl) (by kernel_rfl) ?_
        intro φ31 w31 s
        refine wp_ret ?_
        refine ret_rule (C := []) _ [] (.bool false) [] [] s trivial (by kernel_rfl) ?_
        exact ⟨_, _, _, rfl, s, (congrArg Value.bool (ph_bad (dT9 hc12) (by have hs9 := dR_or l p11; have hq0 := dF9 hc5; have hq1 := dT9 hc12; have hq2 := dT9 hc17; have hq3 := dF9 hc19; have hq4 := dF9 hc24; have hq5 := dF9 hc27; have hq6 := dF9 hc29; omega) (by have hs9 := dR_or l p11; have hq0 := dF9 hc5; have hq1 := dT9 hc12; have hq2 := dT9 hc17; have hq3 := dF9 hc19; have hq4 := dF9 hc24; have hq5 := dF9 hc27; have hq6 := dF9 hc29; omega) hi11_1).symm)⟩
   ·
    rw [hc17]
    refine oKD _ [] 4 [] 0 (fun φ32 => [(15, .bool false), (21, .bool false), (20, undef), (19, undef)]) (fun φ32 => []) s (fun φ32 => by kernel_rfl) (by kernel_rfl) ?_
    intro φ32 w32 s
    refine cond_false_rule (b := false) (by kernel_rfl) rfl ?_
    refine seqR ?_
    refine oK _ [] 1 [] 0 (fun φ33 => [(25, .int .i32 (dR l p11))]) (fun φ33 => []) s (fun φ33 => by kernel_rfl) ?_
    intro φ33 w33 s
    refine call_rule (some 26) s (blank_c (x := dR l p11)) (by kernel_rfl) ?_
    intro v34 I34 w34 le34 h34 s
    replace hle10 := leMono le34 hle10
    obtain rfl := h34
    refine oK _ [] 1 [] 0 (fun φ35 => [(27, .bool (decide (dR l p11 = 32)))]) (fun φ35 => []) s (fun φ35 => by kernel_rfl) ?_
    intro φ35 w35 s
    rcases Bool.eq_false_or_eq_true (decide (dR l p11 = 32)) with hc36 | hc36
    ·
     rw [hc36]
     refine oKD _ [] 4 [] 0 (fun φ37 => [(24, .bool true), (30, .bool true), (29, undef), (28, undef)]) (fun φ37 => []) s (fun φ37 => by kernel_rfl) (by kernel_rfl) ?_
     intro φ37 w37 s
     refine cond_true_rule (b := true) (by kernel_rfl) rfl ?_
     refine wp_skip ?_
     have hq9 := dT9 hc12
     have hs9 := dR_small (l := l) (p := p11) (by have hq0 := dF9 hc5; have hq1 := dT9 hc12; have hq2 := dF9 hc17; have hq3 := dT9 hc36; omega)
     exact ⟨⟨m11 - 1, (p11 + dW l p11, d11), _, _, _, by omega, rfl, s, (List.Sublist.cons₂ _ List.Sublist.slnil), by kernel_rfl, hle10, by show l.length ≤ p11 + dW l p11 + (m11 - 1); omega, by rw [hs9.2]; exact ph_skip hq9 (by have hq0 := dF9 hc5; have hq1 := dT9 hc12; have hq2 := dF9 hc17; have hq3 := dT9 hc36; omega) (by have hq0 := dF9 hc5; have hq1 := dT9 hc12; have hq2 := dF9 hc17; have hq3 := dT9 hc36; omega) hi11_1, by have h8 := hi11_2; show d11 ≤ p11 + dW l p11; omega⟩⟩
    ·
     rw [hc36]
     refine oK _ [] 4 [] 0 (fun φ38 => [(24, .bool (((dR l p11 : Nat) : Int) == ((45 : Nat) : Int))), (30, .bool (((dR l p11 : Nat) : Int) == ((45 : Nat) : Int))), (29, .bool (((dR l p11 : Nat) : Int) == ((45 : Nat) : Int))), (28, .int .i32 (dR l p11))]) (fun φ38 => []) s (fun φ38 => by kernel_rfl) ?_
     intro φ38 w38 s
     rw [nat_eql (a := (dR l p11)) (b := 45)]
     refine ops_done (by kernel_rfl) ?_
     rcases Bool.eq_false_or_eq_true (decide ((dR l p11) = 45)) with hc39 | hc39
     ·
      rw [hc39]
      refine cond_true_rule (b := true) (by kernel_rfl) rfl ?_
      refine wp_skip ?_
      have hq9 := dT9 hc12
      have hs9 := dR_small (l := l) (p := p11) (by have hq0 := dF9 hc5; have hq1 := dT9 hc12; have hq2 := dF9 hc17; have hq3 := dF9 hc36; have hq4 := dT9 hc39; omega)
      exact ⟨⟨m11 - 1, (p11 + dW l p11, d11), _, _, _, by omega, rfl, s, (List.Sublist.cons₂ _ List.Sublist.slnil), by kernel_rfl, hle10, by show l.length ≤ p11 + dW l p11 + (m11 - 1); omega, by rw [hs9.2]; exact ph_skip hq9 (by have hq0 := dF9 hc5; have hq1 := dT9 hc12; have hq2 := dF9 hc17; have hq3 := dF9 hc36; have hq4 := dT9 hc39; omega) (by have hq0 := dF9 hc5; have hq1 := dT9 hc12; have hq2 := dF9 hc17; have hq3 := dF9 hc36; have hq4 := dT9 hc39; omega) hi11_1, by have h8 := hi11_2; show d11 ≤ p11 + dW l p11; omega⟩⟩
     ·
      rw [hc39]
      refine cond_false_rule (b := false) (by kernel_rfl) rfl ?_
      refine seqR ?_
      refine oK _ [] 3 [] 0 (fun φ40 => [(34, .bool (((dR l p11 : Nat) : Int) == ((43 : Nat) : Int))), (33, .bool (((dR l p11 : Nat) : Int) == ((43 : Nat) : Int))), (32, .int .i32 (dR l p11))]) (fun φ40 => []) s (fun φ40 => by kernel_rfl) ?_
      intro φ40 w40 s
      rw [nat_eql (a := (dR l p11)) (b := 43)]
      rcases Bool.eq_false_or_eq_true (decide ((dR l p11) = 43)) with hc41 | hc41
      ·
       rw [hc41]
       refine oK _ [] 4 [] 0 (fun φ42 => [(31, .bool (((p11 : Nat) : Int) == ((0 : Nat) : Int))), (37, .bool (((p11 : Nat) : Int) == ((0 : Nat) : Int))), (36, .bool (((p11 : Nat) : Int) == ((0 : Nat) : Int))), (35, .int .i64 p11)]) (fun φ42 => []) s (fun φ42 => by kernel_rfl) ?_
       intro φ42 w42 s
       rw [nat_eql (a := p11) (b := 0)]
       refine ops_done (by kernel_rfl) ?_
       rcases Bool.eq_false_or_eq_true (decide (p11 = 0)) with hc43 | hc43
       ·
        rw [hc43]
        refine cond_true_rule (b := true) (by kernel_rfl) rfl ?_
        refine wp_skip ?_
        have hq9 := dT9 hc12
        have hs9 := dR_small (l := l) (p := p11) (by have hq0 := dF9 hc5; have hq1 := dT9 hc12; have hq2 := dF9 hc17; have hq3 := dF9 hc36; have hq4 := dF9 hc39; have hq5 := dT9 hc41; have hq6 := dT9 hc43; omega)
        exact ⟨⟨m11 - 1, (p11 + dW l p11, d11), _, _, _, by omega, rfl, s, (List.Sublist.cons₂ _ List.Sublist.slnil), by kernel_rfl, hle10, by show l.length ≤ p11 + dW l p11 + (m11 - 1); omega, by rw [hs9.2]; exact ph_skip hq9 (by have hq0 := dF9 hc5; have hq1 := dT9 hc12; have hq2 := dF9 hc17; have hq3 := dF9 hc36; have hq4 := dF9 hc39; have hq5 := dT9 hc41; have hq6 := dT9 hc43; omega) (by have hq0 := dF9 hc5; have hq1 := dT9 hc12; have hq2 := dF9 hc17; have hq3 := dF9 hc36; have hq4 := dF9 hc39; have hq5 := dT9 hc41; have hq6 := dT9 hc43; omega) hi11_1, by have h8 := hi11_2; show d11 ≤ p11 + dW l p11; omega⟩⟩
       ·
        rw [hc43]
        refine cond_false_rule (b := false) (by kernel_rfl) rfl ?_
        refine seqR ?_
        refine oKD _ [] 1 [] 0 (fun φ44 => [(2, .bool false)]) (fun φ44 => []) s (fun φ44 => by kernel_rfl) (by kernel_rfl) ?_
        intro φ44 w44 s
        refine wp_ret ?_
        refine ret_rule (C := []) _ [] (.bool false) [] [] s trivial (by kernel_rfl) ?_
        exact ⟨_, _, _, rfl, s, (congrArg Value.bool (ph_bad (dT9 hc12) (by have hs9 := dR_or l p11; have hq0 := dF9 hc5; have hq1 := dT9 hc12; have hq2 := dF9 hc17; have hq3 := dF9 hc36; have hq4 := dF9 hc39; have hq5 := dT9 hc41; have hq6 := dF9 hc43; omega) (by have hs9 := dR_or l p11; have hq0 := dF9 hc5; have hq1 := dT9 hc12; have hq2 := dF9 hc17; have hq3 := dF9 hc36; have hq4 := dF9 hc39; have hq5 := dT9 hc41; have hq6 := dF9 hc43; omega) hi11_1).symm)⟩
      ·
       rw [hc41]
       refine oKD _ [] 4 [] 0 (fun φ45 => [(31, .bool false), (37, .bool false), (36, undef), (35, undef)]) (fun φ45 => []) s (fun φ45 => by kernel_rfl) (by kernel_rfl) ?_
       intro φ45 w45 s
       refine cond_false_rule (b := false) (by kernel_rfl) rfl ?_
       refine seqR ?_
       refine oKD _ [] 1 [] 0 (fun φ46 => [(2, .bool false)]) (fun φ46 => []) s (fun φ46 => by kernel_rfl) (by kernel_rfl) ?_
       intro φ46 w46 s
       refine wp_ret ?_
       refine ret_rule (C := []) _ [] (.bool false) [] [] s trivial (by kernel_rfl) ?_
       exact ⟨_, _, _, rfl, s, (congrArg Value.bool (ph_bad (dT9 hc12) (by have hs9 := dR_or l p11; have hq0 := dF9 hc5; have hq1 := dT9 hc12; have hq2 := dF9 hc17; have hq3 := dF9 hc36; have hq4 := dF9 hc39; have hq5 := dF9 hc41; omega) (by have hs9 := dR_or l p11; have hq0 := dF9 hc5; have hq1 := dT9 hc12; have hq2 := dF9 hc17; have hq3 := dF9 hc36; have hq4 := dF9 hc39; have hq5 := dF9 hc41; omega) hi11_1).symm)⟩
  ·
   refine sem_rule (Instr.next (.pointer (some ⟨k9, 0, none⟩)) true 0) (some 11) (.tuple #[.bool false]) (by kernel_rfl) (next_end (k := k9) (pos := p11) (l := l) (ty := 0) s (dF9 hc12)) ?_
   refine oKD [(k9, .stringIter ⟨(l).toArray⟩ p11)] [] 1 [] 0 (fun φ48 => [(12, .bool false)]) (fun φ48 => []) s (fun φ48 => by kernel_rfl) (by kernel_rfl) ?_
   intro φ48 w48 s
   refine wp_seq ?_
   refine cond_false_rule (b := false) (by kernel_rfl) rfl ?_
   refine wp_exit ?_
   refine seqR ?_
   refine oK _ [] 3 [] 0 (fun φ49 => [(2, .bool (decide (((d11 : Nat) : Int) > ((0 : Nat) : Int)))), (39, .bool (decide (((d11 : Nat) : Int) > ((0 : Nat) : Int)))), (38, .int .i64 d11)]) (fun φ49 => []) s (fun φ49 => by kernel_rfl) ?_
   intro φ49 w49 s
   rw [nat_gtr (a := d11) (b := 0)]
   refine ops_done (by kernel_rfl) ?_
   refine wp_ret ?_
   refine ret_rule (C := []) _ [] (.bool (decide (0 < d11))) [] [] s trivial (by kernel_rfl) ?_
   exact ⟨_, _, _, rfl, s, (congrArg Value.bool (by have hx9 : ¬ 20 < nR l := (by have hq0 := dF9 hc5; have hq1 := dF9 hc12; omega); rw [ph_fin2 hx9 (ph_end (dF9 hc12) hi11_1)]))⟩

end Go.Proofs.YtcpmjogeafhpnaaDoor.Tx
/- What a mail's address is, byte by byte. -/
set_option linter.all false
set_option maxRecDepth 100000
namespace Go.Proofs.YtcpmjogeafhpnaaDoor.Tx
open Go.RowKit Go.Sep Go.Lib
def ixB (c : UInt8) : List UInt8 → Option Nat
  | [] => none
  | b :: r => if b = c then some 0 else (ixB c r).map (· + 1)
theorem index_ix (c : UInt8) : ∀ l : List UInt8, indexByte l c = (match ixB c l with | none => -1 | some o => ((o : Nat) : Int))
  | [] => rfl
  | b :: r => by
    have ih := index_ix c r
    by_cases h : b = c
    · simp only [indexByte, ixB, h, if_true, beq_self_eq_true]; rfl
    · have hb : (b == c) = false := by simp [h]
      simp only [indexByte, ixB, hb, if_neg h, ih]
      cases ixB c r with
      | none => rfl
      | some o =>
        have : (((o : Nat) : Int) == -1) = false := by simp
        simp only [Option.map_some, this]
        simp
theorem index_hit {c : UInt8} {l : List UInt8} {o : Nat} (h : ixB c l = some o) : indexByte l c = ((o : Nat) : Int) := by rw [index_ix, h]
theorem index_miss {c : UInt8} {l : List UInt8} (h : ixB c l = none) : indexByte l c = -1 := by rw [index_ix, h]
theorem ix_none : ∀ {c : UInt8} {l : List UInt8}, ixB c l = none → c ∉ l
  | c, [], _ => by simp
  | c, b :: r, h => by
    simp only [ixB] at h
    split at h
    · cases h
    · rename_i hb
      have := ix_none (c := c) (l := r) (by simpa using h)
      simp only [List.mem_cons, not_or]; exact ⟨fun e => hb e.symm, this⟩
theorem ix_split : ∀ {c : UInt8} {l : List UInt8} {o : Nat}, ixB c l = some o → o < l.length ∧ l = l.take o ++ c :: l.drop (o + 1) ∧ c ∉ l.take o
  | c, [], _, h => by cases h
  | c, b :: r, o, h => by
    simp only [ixB] at h
    split at h
    · rename_i hb
      cases h; subst hb
      exact ⟨by simp, by simp, by simp⟩
    · rename_i hb
      obtain ⟨q, hq, rfl⟩ := Option.map_eq_some_iff.1 h
      obtain ⟨h1, h2, h3⟩ := ix_split hq
      refine ⟨by simpa using h1, ?_, ?_⟩
      · simp only [List.take_succ_cons, List.drop_succ_cons, List.cons_append]
        rw [← h2]
      · simp only [List.take_succ_cons, List.mem_cons, not_or]
        exact ⟨fun e => hb e.symm, h3⟩
theorem ix_of {c : UInt8} {l : List UInt8} {i : Nat} (h : i < l.length) (h1 : l.getD i 0 = c) (h2 : c ∉ l.take i) : ixB c l = some i := by
  induction l generalizing i with
  | nil => simp at h
  | cons b r ih =>
    cases i with
    | zero => simp only [ixB]; rw [if_pos (by simpa using h1)]
    | succ i =>
      simp only [List.take_succ_cons, List.mem_cons, not_or] at h2
      simp only [ixB]
      rw [if_neg (fun e => h2.1 e.symm), ih (by simpa using h) (by simpa using h1) h2.2]
      rfl
def hasB (c : UInt8) (l : List UInt8) : Bool := (ixB c l).isSome
def okA (b : UInt8) : Bool := decide (32 < b.toNat ∧ b.toNat < 127)
def okM (b : UInt8) : Bool := decide (32 < b.toNat ∧ b.toNat < 127 ∧ b.toNat ≠ 64)
def part (l : List UInt8) : Bool := l.all okM && !(decide (l = []))
def point (l : List UInt8) : Bool := hasB 46 l && !(decide (l.take 1 = [46])) && !(decide (l.drop (l.length - 1) = [46]))
def mail (l : List UInt8) : Bool := match ixB 64 l with | none => false | some o => part (l.take o) && part (l.drop (o + 1)) && point (l.drop (o + 1))
theorem mail_hit {l : List UInt8} {o : Nat} (h : ixB 64 l = some o) : mail l = (part (l.take o) && part (l.drop (o + 1)) && point (l.drop (o + 1))) := by unfold mail; rw [h]
theorem mail_miss {l : List UInt8} (h : ixB 64 l = none) : mail l = false := by unfold mail; rw [h]
theorem pa_go {f : UInt8 → Bool} {l : List UInt8} {p : Nat} (h : p < l.length) (hb : f (l.getD p 0) = true) (e : l.all f = (l.drop p).all f) : l.all f = (l.drop (p + 1)).all f := by
  rw [e, drop_at h, List.all_cons, hb, Bool.true_and]
theorem pa_no {f : UInt8 → Bool} {l : List UInt8} {p : Nat} (h : p < l.length) (hb : f (l.getD p 0) = false) (e : l.all f = (l.drop p).all f) : l.all f = false := by
  rw [e, drop_at h, List.all_cons, hb, Bool.false_and]
theorem pa_all {f : UInt8 → Bool} {l : List UInt8} {p : Nat} (h : ¬ p < l.length) (e : l.all f = (l.drop p).all f) : l.all f = true := by
  rw [e, List.drop_of_length_le (by omega)]; rfl
theorem part_no {l : List UInt8} (h : l.all okM = false) : part l = false := by unfold part; rw [h]; rfl
theorem part_yes {l : List UInt8} (h : l.all okM = true) : part l = !(decide (l = [])) := by unfold part; rw [h, Bool.true_and]
theorem okM_A {b : UInt8} : okM b = (okA b && !(decide (b = 64))) := by
  unfold okM okA
  have e : (b.toNat ≠ 64) ↔ ¬ b = 64 := by rw [ne_eq, not_congr]; exact ⟨fun h => UInt8.toNat_inj.1 h, fun h => by rw [h]; rfl⟩
  by_cases h : b = 64
  · subst h; decide
  · have := e.2 h
    rw [decide_eq_false h]
    simp only [Bool.not_false, Bool.and_true]
    exact decide_eq_decide.2 ⟨fun q => ⟨q.1, q.2.1⟩, fun q => ⟨q.1, q.2, this⟩⟩
theorem all_M (l : List UInt8) : l.all okM = (l.all okA && decide (l.count 64 = 0)) := by
  induction l with
  | nil => rfl
  | cons b r ih =>
    rw [List.all_cons, List.all_cons, ih, okM_A, List.count_cons]
    by_cases h : b = 64
    · subst h; simp
    · have : (b == 64) = false := by simp [h]
      rw [this, decide_eq_false h]; simp [Bool.and_assoc]
theorem mail_badA {l : List UInt8} (h : l.all okA = false) : mail l = false := by
  cases q : ixB 64 l with
  | none => exact mail_miss q
  | some o =>
    obtain ⟨h1, h2, h3⟩ := ix_split q
    rw [mail_hit q]
    rw [h2, List.all_append, List.all_cons] at h
    have h64 : okA 64 = true := by decide
    rw [h64, Bool.true_and] at h
    unfold part
    rw [all_M, all_M]
    cases a : (l.take o).all okA with
    | false => simp
    | true => rw [a, Bool.true_and] at h; rw [h]; simp
theorem count_ix {l : List UInt8} {o : Nat} (h : ixB 64 l = some o) : l.count 64 = (l.drop (o + 1)).count 64 + 1 := by
  obtain ⟨h1, h2, h3⟩ := ix_split h
  have e := congrArg (List.count 64) h2
  rw [List.count_append, List.count_cons, List.count_eq_zero.2 h3] at e
  simpa using e
theorem mail_cnt {l : List UInt8} (h : l.count 64 ≠ 1) : mail l = false := by
  cases q : ixB 64 l with
  | none => exact mail_miss q
  | some o =>
    have e := count_ix q
    rw [mail_hit q]
    have : part (l.drop (o + 1)) = false := by
      unfold part
      rw [all_M, decide_eq_false (show ¬ (l.drop (o + 1)).count 64 = 0 by omega)]; simp
    rw [this]; simp
theorem mail_zero {l : List UInt8} (h : ixB 64 l = some 0) : mail l = false := by
  rw [mail_hit h]; unfold part; simp
theorem mail_core {l : List UInt8} {o : Nat} (h : ixB 64 l = some o) (h0 : o ≠ 0) (ha : l.all okA = true) (hc : l.count 64 = 1) : mail l = (!(decide (l.drop (o + 1) = [])) && point (l.drop (o + 1))) := by
  obtain ⟨h1, h2, h3⟩ := ix_split h
  have e := count_ix h
  rw [mail_hit h]
  have hh := ha
  rw [h2, List.all_append, List.all_cons, Bool.and_eq_true, Bool.and_eq_true] at hh
  have p1 : part (l.take o) = true := by
    unfold part
    rw [all_M, hh.1, List.count_eq_zero.2 h3]
    have : ¬ l.take o = [] := fun q => by have := congrArg List.length q; rw [List.length_take, List.length_nil] at this; omega
    rw [decide_eq_false this]; rfl
  have p2 : part (l.drop (o + 1)) = !(decide (l.drop (o + 1) = [])) := by
    unfold part
    rw [all_M, hh.2.2, decide_eq_true (show (l.drop (o + 1)).count 64 = 0 by omega)]; rfl
  rw [p1, p2, Bool.true_and]
theorem t64 {x : UInt8} : x.toNat = 64 ↔ x = 64 := ⟨fun h => UInt8.toNat_inj.1 h, fun h => by rw [h]; rfl⟩
theorem t46 {x : UInt8} : x.toNat = 46 ↔ x = 46 := ⟨fun h => UInt8.toNat_inj.1 h, fun h => by rw [h]; rfl⟩
theorem take_s {l : List UInt8} {i : Nat} (h : i < l.length) : l.take (i + 1) = l.take i ++ [l.getD i 0] := by
  rw [List.take_add_one]; simp [h]
theorem cnt_yes {l : List UInt8} {i c : Nat} (h : i < l.length) (h1 : (l.getD i 0).toNat = 64) (e : (l.take i).count 64 = c) : (l.take (i + 1)).count 64 = c + 1 := by
  rw [take_s h, List.count_append, e, t64.1 h1]; rfl
theorem cnt_no {l : List UInt8} {i c : Nat} (h : i < l.length) (h1 : ¬ (l.getD i 0).toNat = 64) (e : (l.take i).count 64 = c) : (l.take (i + 1)).count 64 = c := by
  have z : List.count 64 [l.getD i 0] = 0 := by
    rw [List.count_eq_zero, List.mem_singleton]; exact fun q => h1 (t64.2 q.symm)
  rw [take_s h, List.count_append, e, z]; rfl
theorem ix_first {l : List UInt8} {i c : Nat} (h : i < l.length) (h1 : (l.getD i 0).toNat = 64) (e : (l.take i).count 64 = c) (h0 : c + 1 = 1) : ixB 64 l = some i :=
  ix_of h (t64.1 h1) (List.count_eq_zero.1 (by omega))
theorem okA_yes {b : UInt8} (h : 32 < b.toNat ∧ b.toNat < 127) : okA b = true := decide_eq_true h
theorem okA_no {b : UInt8} (h : ¬ (32 < b.toNat ∧ b.toNat < 127)) : okA b = false := decide_eq_false h
theorem okM_yes {b : UInt8} (h : 32 < b.toNat ∧ b.toNat < 127 ∧ b.toNat ≠ 64) : okM b = true := decide_eq_true h
theorem okM_no {b : UInt8} (h : ¬ (32 < b.toNat ∧ b.toNat < 127 ∧ b.toNat ≠ 64)) : okM b = false := decide_eq_false h
theorem has_at {l : List UInt8} {j : Nat} (h : j < l.length) (h1 : (l.getD j 0).toNat = 46) : hasB 46 l = true := by
  unfold hasB
  cases q : ixB 46 l with
  | none =>
    have := ix_none q
    exact absurd (by rw [← t46.1 h1]; simp [h]) this
  | some o => rfl
theorem has_no {l : List UInt8} (h : (46 : UInt8) ∉ l) : hasB 46 l = false := by
  unfold hasB
  cases q : ixB 46 l with
  | none => rfl
  | some o =>
    obtain ⟨h1, h2, h3⟩ := ix_split q
    exact absurd (by rw [h2]; simp) h
theorem nil_take (l : List UInt8) : (46 : UInt8) ∉ l.take 0 := by simp
theorem not_next {l : List UInt8} {j : Nat} (h : j < l.length) (h1 : ¬ (l.getD j 0).toNat = 46) (e : (46 : UInt8) ∉ l.take j) : (46 : UInt8) ∉ l.take (j + 1) := by
  rw [take_s h, List.mem_append, List.mem_singleton, not_or]
  exact ⟨e, fun q => h1 (t46.2 q.symm)⟩
theorem not_all {l : List UInt8} {j : Nat} (h : ¬ j < l.length) (e : (46 : UInt8) ∉ l.take j) : (46 : UInt8) ∉ l := by
  rwa [List.take_of_length_le (by omega)] at e
theorem first_46 {l : List UInt8} (h : 0 < l.length) : decide (l.take 1 = [46]) = decide ((l.getD 0 0).toNat = 46) := by
  rw [show l.take 1 = [l.getD 0 0] from (take_s (i := 0) h).trans rfl]
  exact decide_eq_decide.2 ⟨fun q => t46.2 (by simpa using q), fun q => by rw [t46.1 q]⟩
theorem last_46 {l : List UInt8} (h : 0 < l.length) : decide (l.drop (l.length - 1) = [46]) = decide ((l.getD (l.length - 1) 0).toNat = 46) := by
  rw [drop_at (i := l.length - 1) (by omega), List.drop_of_length_le (by omega)]
  exact decide_eq_decide.2 ⟨fun q => t46.2 (by simpa using q), fun q => by rw [t46.1 q]⟩
theorem pre_short {l : List UInt8} (h : ¬ 1 ≤ l.length) : decide (l.take 1 = [46]) = false := by
  have : l = [] := List.length_eq_zero_iff.1 (by omega)
  subst this; rfl
theorem suf_short {l : List UInt8} (h : ¬ 1 ≤ l.length) : decide (l.drop (l.length - 1) = [46]) = false := by
  have : l = [] := List.length_eq_zero_iff.1 (by omega)
  subst this; rfl
end Go.Proofs.YtcpmjogeafhpnaaDoor.Tx
/-
  DERIVED: THE SHELF's CONTRACTS AT THIS DUMP, IN PLAIN WORDS (tools/lay-plain.mjs out of 'TrydShelfI.lean', which tools/lay-shelf.mjs wrote): THE SAME DECLARATIONS UNDER THE SAME YtcpmjogeafhpnaaDoorS: 'import', 'namespace', 'open', 'def', 'theorem' AND NOTHING ELSE: no command of the shelf's: FOR A HAND-IN. Each laying: the table of numbers ('.._ren') and one theorem, a field a fact of the dump's own or the kernel's comparison; each contract: ONE APPLICATION.
-/
namespace Go.Proofs
open Go.Shelf
def Tryd.lays219_ren : Go.Shelf.Ren := ⟨fun | 219 => 140 | 217 => 146 | 225 => 147 | 224 => 148 | 267 => 149 | 266 => 150 | 314 => 151 | n => n, fun | 9 => 9 | 3 => 3 | 4 => 4 | 5 => 5 | 46 => 142 | 146 => 180 | 51 => 179 | n => n, fun | 1 => 3 | n => n⟩
theorem Tryd.lays219 : Go.Proofs.Lays.n219 Tryd.prog Tryd.lays219_ren := {
  mixed := by kernel_rfl
  f217 := Tryd.func146.trans (congrArg some (by kernel_rfl))
  f219 := Tryd.func140.trans (congrArg some (by kernel_rfl))
  f224 := Tryd.func148.trans (congrArg some (by kernel_rfl))
  f225 := Tryd.func147.trans (congrArg some (by kernel_rfl))
  f266 := Tryd.func150.trans (congrArg some (by kernel_rfl))
  f267 := Tryd.func149.trans (congrArg some (by kernel_rfl))
  f314 := Tryd.func151.trans (congrArg some (by kernel_rfl))
  t3 := Tryd.underlying3
  a3 := Tryd.isAgg3
  z3 := Tryd.sizeOf3
  v3 := Tryd.zeroValue3
  t4 := Tryd.underlying4
  a4 := Tryd.isAgg4
  z4 := Tryd.sizeOf4
  v4 := Tryd.zeroValue4
  t5 := Tryd.underlying5
  a5 := Tryd.isAgg5
  z5 := Tryd.sizeOf5
  v5 := Tryd.zeroValue5
  t9 := Tryd.underlying9
  a9 := Tryd.isAgg9
  z9 := Tryd.sizeOf9
  v9 := Tryd.zeroValue9
  t46 := Tryd.underlying142
  a46 := Tryd.isAgg142
  z46 := Tryd.sizeOf142
  v46 := Tryd.zeroValue142
  t51 := Tryd.underlying179
  a51 := Tryd.isAgg179
  z51 := Tryd.sizeOf179
  v51 := Tryd.zeroValue179
  t146 := Tryd.underlying180
  a146 := Tryd.isAgg180
  z146 := Tryd.sizeOf180
  v146 := Tryd.zeroValue180
  g1 := by kernel_rfl }
open Go.RowKit Go.Lib in
/-- internal/stringslite.Index (what strings.Index calls) AT A substr OF ONE BYTE c: IT RETURNS 'Lib.indexByte s c'; the world is as it was. (LAID: no walk: one application.) -/
theorem Tryd.stringslite_Index_one (s : ByteArray) (c : UInt8) (w : World) :
    Calls Tryd.prog 140 #[.string s, .string ⟨#[c]⟩] w fun e w' => e = .returned (.int .i64 (Lib.indexByte s.data.toList c)) ∧ w' = w := Any.stringslite_Index_one Tryd.lays219 s c w
end Go.Proofs
/- The library's small functions at one byte. -/
set_option linter.all false
set_option maxRecDepth 100000
namespace Go.Proofs.YtcpmjogeafhpnaaDoor.Tx
open Go.RowKit Go.Sep
attribute [local irreducible] Go.wpList Go.Code.wp

theorem idx_hit {I : IM} {c : UInt8} {l : List UInt8} {o : Nat} (h : ixB c l = some o) : Fun Tryd.prog 140 #[.string ⟨(l).toArray⟩, .string ⟨#[c]⟩] I (fun v J => v = .int .i64 ((o : Nat) : Int)) := fun w hw =>
  (Tryd.stringslite_Index_one ⟨l.toArray⟩ c w).mono fun e w' ⟨he, hw'⟩ => by
    subst hw'; subst he
    exact ⟨_, I, [], rfl, st_below hw (Below.refl _ _), congrArg (fun q => Value.int .i64 q) (index_hit h)⟩
theorem idx_miss {I : IM} {c : UInt8} {l : List UInt8} (h : ixB c l = none) : Fun Tryd.prog 140 #[.string ⟨(l).toArray⟩, .string ⟨#[c]⟩] I (fun v J => v = .int .i64 (-1)) := fun w hw =>
  (Tryd.stringslite_Index_one ⟨l.toArray⟩ c w).mono fun e w' ⟨he, hw'⟩ => by
    subst hw'; subst he
    exact ⟨_, I, [], rfl, st_below hw (Below.refl _ _), congrArg (fun q => Value.int .i64 q) (index_miss h)⟩

set_option maxHeartbeats 1000000 in
theorem cutL_hit {I : IM} {l : List UInt8} (hn : l.length ≤ 1000000) {o : Nat} (h : ixB 64 l = some o) : Fun Tryd.prog 133 #[.string ⟨(l).toArray⟩, .string ⟨#[64]⟩] I (fun v J => v = .tuple #[.string ⟨(l.take o).toArray⟩, .string ⟨(l.drop (o + 1)).toArray⟩, .bool true]) := by
 refine enter_rule 23 [(0, .string ⟨(l).toArray⟩), (1, .string ⟨#[64]⟩)] Tryd.func133 rfl (by kernel_rfl) ?_
 intro w s
 refine seqR ?_
 refine oKD [] [] 3 [] 0 (fun φ1 => [(6, .bool false), (5, .string ⟨#[]⟩), (4, .string ⟨#[]⟩)]) (fun φ1 => []) s (fun φ1 => by kernel_rfl) (by kernel_rfl) ?_
 intro φ1 w1 s
 refine wp_seq ?_
 refine seqR ?_
 refine oK [] [] 2 [] 0 (fun φ2 => [(9, .string ⟨#[64]⟩), (8, .string ⟨(l).toArray⟩)]) (fun φ2 => []) s (fun φ2 => by kernel_rfl) ?_
 intro φ2 w2 s
 refine call_rule (some 10) s (idx_hit (l := l) h) (by kernel_rfl) ?_
 intro v3 I3 w3 le3 h3 s
 obtain rfl := h3
 refine oKD [] [] 1 [] 0 (fun φ4 => [(7, .int .i64 o)]) (fun φ4 => []) s (fun φ4 => by kernel_rfl) (by kernel_rfl) ?_
 intro φ4 w4 s
 refine seqR ?_
 refine oK [] [] 2 [] 0 (fun φ5 => [(12, .bool (decide (((o : Nat) : Int) ≥ ((0 : Nat) : Int)))), (11, .int .i64 o)]) (fun φ5 => []) s (fun φ5 => by kernel_rfl) ?_
 intro φ5 w5 s
 rw [nat_geq (a := o) (b := 0)]
 refine ops_done (by kernel_rfl) ?_
 rcases Bool.eq_false_or_eq_true (decide (0 ≤ o)) with hc6 | hc6
 ·
  rw [hc6]
  refine cond_true_rule (b := true) (by kernel_rfl) rfl ?_
  refine wp_seq ?_
  refine draw_rule (C := []) ⟨(fun φ7 xs7 => [.look 0 [] [], .look 0 [] [], .ran (Instr.sliceAt 9 (.string ⟨(l).toArray⟩) none (some (.int .i64 o)) none), .look 0 [] [], .look 0 [] [], .look 0 [] [], .look 0 [] [], .sub 0 [] [] (.int .i64 (IntKind.wrap .i64 (((o : Nat) : Int) + ((1 : Nat) : Int)))), .ran (Instr.sliceAt 9 (.string ⟨(l).toArray⟩) (some (.int .i64 ((o + 1 : Nat) : Int))) none none), .look 0 [] [], .look 0 [] [], .look 0 [] []]), (fun φ7 xs7 => [.string ⟨(l).toArray⟩, .int .i64 o, .string ⟨((l.take o)).toArray⟩, .string ⟨(l).toArray⟩, .int .i64 o, .string ⟨#[64]⟩, .int .i64 1, .int .i64 ((o + 1 : Nat) : Int), .string ⟨((l.drop (o + 1))).toArray⟩, .string ⟨((l.take o)).toArray⟩, .string ⟨((l.drop (o + 1))).toArray⟩, .bool true]), (fun φ7 xs7 => [[]]), (fun φ7 xs7 => [[default, default, default, default, default, default, default, default, default, default, default, default]]), [], [1, 1, 6, 1, 1, 1, 1, 5, 6, 1, 1, 1]⟩ (fun j => ([MP.any] : List MP).getD j MP.any) [] [7] [2, 8] (fun φ7 xs7 => []) (fun φ7 xs7 => [(13, .string ⟨(l).toArray⟩), (14, .int .i64 o), (15, .string ⟨((l.take o)).toArray⟩), (16, .string ⟨(l).toArray⟩), (17, .int .i64 o), (18, .string ⟨#[64]⟩), (19, .int .i64 1), (20, .int .i64 ((o + 1 : Nat) : Int)), (21, .string ⟨((l.drop (o + 1))).toArray⟩), (4, .string ⟨((l.take o)).toArray⟩), (5, .string ⟨((l.drop (o + 1))).toArray⟩), (6, .bool true)]) (fun φ7 xs7 => []) s trivial (by kernel_rfl) (by kernel_rfl) (fun _ _ => by kernel_rfl) (fun _ _ => by kernel_rfl) ⟨fun _ _ => by kernel_rfl, fun _ _ => by kernel_rfl, fun _ _ => by kernel_rfl, fun _ _ => by kernel_rfl⟩ (fun _ _ _ => by kernel_rfl) (fun _ _ => by kernel_rfl) (fun _ _ => by kernel_rfl) (fun _ _ => by kernel_rfl) (fun _ _ => by kernel_rfl) (fun _ _ => by kernel_rfl) ⟨kcast (A := ∀ (φ7 : Nat → Nat) (xs7 : Xs), (.int .i64 (IntKind.wrap .i64 (((o : Nat) : Int) + ((1 : Nat) : Int))) : Value) = .int .i64 ((o + 1 : Nat) : Int)) (by kernel_rfl) (fun φ7 xs7 => congrArg (Value.int .i64) ((nat_addI (a := o) (b := 1) (by have ho9 := (ix_split h).1;  have hq0 := dT9 hc6; omega)))), trivial⟩ ⟨kcast (A := ∀ (φ7 : Nat → Nat) (xs7 : Xs) (J : IM) (w : World), I3.Le J → J.Sub w → ((Instr.sliceAt 9 (.string ⟨(l).toArray⟩) none (some (.int .i64 o)) none) : Sem Value).run Tryd.prog w = .ok (.string ⟨((l.take o)).toArray⟩) w) (by kernel_rfl) (fun φ7 xs7 J w hJ hS => run_takeS (s := l) (hi := o) (by have ho9 := (ix_split h).1;  have hq0 := dT9 hc6; (try simp only [List.length_drop, List.length_take, List.length_append, List.length_cons, List.length_nil]); omega)), ⟨kcast (A := ∀ (φ7 : Nat → Nat) (xs7 : Xs) (J : IM) (w : World), I3.Le J → J.Sub w → ((Instr.sliceAt 9 (.string ⟨(l).toArray⟩) (some (.int .i64 ((o + 1 : Nat) : Int))) none none) : Sem Value).run Tryd.prog w = .ok (.string ⟨((l.drop (o + 1))).toArray⟩) w) (by kernel_rfl) (fun φ7 xs7 J w hJ hS => run_dropStr (s := l) (lo := o + 1) under9 (by have ho9 := (ix_split h).1;  have hq0 := dT9 hc6; (try simp only [List.length_drop, List.length_take, List.length_append, List.length_cons, List.length_nil]); omega)), trivial⟩⟩ (by kernel_rfl) trivial ?k7
  case k7 =>
   rintro φ7 xs7 I7 w7 le7 s 
   refine wp_ret ?_
   refine ret_rule (C := []) [] [] (.tuple #[.string ⟨((l.take o)).toArray⟩, .string ⟨((l.drop (o + 1))).toArray⟩, .bool true]) [] [] s trivial (by kernel_rfl) ?_
   exact ⟨_, _, _, rfl, s, rfl⟩
 ·
  exact absurd (dF9 hc6) (by omega)

set_option maxHeartbeats 1000000 in
theorem cutL_miss {I : IM} {l : List UInt8} (hn : l.length ≤ 1000000) (h : ixB 64 l = none) : Fun Tryd.prog 133 #[.string ⟨(l).toArray⟩, .string ⟨#[64]⟩] I (fun v J => v = .tuple #[.string ⟨(l).toArray⟩, .string ⟨([]).toArray⟩, .bool false]) := by
 refine enter_rule 23 [(0, .string ⟨(l).toArray⟩), (1, .string ⟨#[64]⟩)] Tryd.func133 rfl (by kernel_rfl) ?_
 intro w s
 refine seqR ?_
 refine oKD [] [] 3 [] 0 (fun φ1 => [(6, .bool false), (5, .string ⟨#[]⟩), (4, .string ⟨#[]⟩)]) (fun φ1 => []) s (fun φ1 => by kernel_rfl) (by kernel_rfl) ?_
 intro φ1 w1 s
 refine wp_seq ?_
 refine seqR ?_
 refine oK [] [] 2 [] 0 (fun φ2 => [(9, .string ⟨#[64]⟩), (8, .string ⟨(l).toArray⟩)]) (fun φ2 => []) s (fun φ2 => by kernel_rfl) ?_
 intro φ2 w2 s
 refine call_rule (some 10) s (idx_miss (l := l) h) (by kernel_rfl) ?_
 intro v3 I3 w3 le3 h3 s
 obtain rfl := h3
 refine oKD [] [] 1 [] 0 (fun φ4 => [(7, .int .i64 (-1))]) (fun φ4 => []) s (fun φ4 => by kernel_rfl) (by kernel_rfl) ?_
 intro φ4 w4 s
 refine seqR ?_
 refine oKD [] [] 2 [] 0 (fun φ5 => [(12, .bool false), (11, .int .i64 (-1))]) (fun φ5 => []) s (fun φ5 => by kernel_rfl) (by kernel_rfl) ?_
 intro φ5 w5 s
 refine cond_false_rule (b := false) (by kernel_rfl) rfl ?_
 refine wp_skip ?_
 refine seqR ?_
 refine oKD [] [] 4 [] 0 (fun φ6 => [(6, .bool false), (5, .string ⟨#[]⟩), (4, .string ⟨(l).toArray⟩), (22, .string ⟨(l).toArray⟩)]) (fun φ6 => []) s (fun φ6 => by kernel_rfl) (by kernel_rfl) ?_
 intro φ6 w6 s
 refine wp_ret ?_
 refine ret_rule (C := []) [] [] (.tuple #[.string ⟨(l).toArray⟩, .string ⟨#[]⟩, .bool false]) [] [] s trivial (by kernel_rfl) ?_
 exact ⟨_, _, _, rfl, s, rfl⟩

set_option maxHeartbeats 1000000 in
theorem cutS_hit {I : IM} {l : List UInt8} (hn : l.length ≤ 1000000) {o : Nat} (h : ixB 64 l = some o) : Fun Tryd.prog 123 #[.string ⟨(l).toArray⟩, .string ⟨#[64]⟩] I (fun v J => v = .tuple #[.string ⟨(l.take o).toArray⟩, .string ⟨(l.drop (o + 1)).toArray⟩, .bool true]) := by
 refine enter_rule 13 [(0, .string ⟨(l).toArray⟩), (1, .string ⟨#[64]⟩)] Tryd.func123 rfl (by kernel_rfl) ?_
 intro w s
 refine seqR ?_
 refine oKD [] [] 3 [] 0 (fun φ1 => [(6, .bool false), (5, .string ⟨#[]⟩), (4, .string ⟨#[]⟩)]) (fun φ1 => []) s (fun φ1 => by kernel_rfl) (by kernel_rfl) ?_
 intro φ1 w1 s
 refine seqR ?_
 refine oK [] [] 2 [] 0 (fun φ2 => [(8, .string ⟨#[64]⟩), (7, .string ⟨(l).toArray⟩)]) (fun φ2 => []) s (fun φ2 => by kernel_rfl) ?_
 intro φ2 w2 s
 refine call_rule (some 9) s (cutL_hit hn h) (by kernel_rfl) ?_
 intro v3 I3 w3 le3 h3 s
 obtain rfl := h3
 refine oKD [] [] 6 [] 0 (fun φ4 => [(6, .bool true), (5, .string ⟨(l.drop (o + 1)).toArray⟩), (4, .string ⟨(l.take o).toArray⟩), (12, .bool true), (11, .string ⟨(l.drop (o + 1)).toArray⟩), (10, .string ⟨(l.take o).toArray⟩)]) (fun φ4 => []) s (fun φ4 => by kernel_rfl) (by kernel_rfl) ?_
 intro φ4 w4 s
 refine wp_ret ?_
 refine ret_rule (C := []) [] [] (.tuple #[.string ⟨(l.take o).toArray⟩, .string ⟨(l.drop (o + 1)).toArray⟩, .bool true]) [] [] s trivial (by kernel_rfl) ?_
 exact ⟨_, _, _, rfl, s, rfl⟩

set_option maxHeartbeats 1000000 in
theorem cutS_miss {I : IM} {l : List UInt8} (hn : l.length ≤ 1000000) (h : ixB 64 l = none) : Fun Tryd.prog 123 #[.string ⟨(l).toArray⟩, .string ⟨#[64]⟩] I (fun v J => v = .tuple #[.string ⟨(l).toArray⟩, .string ⟨([]).toArray⟩, .bool false]) := by
 refine enter_rule 13 [(0, .string ⟨(l).toArray⟩), (1, .string ⟨#[64]⟩)] Tryd.func123 rfl (by kernel_rfl) ?_
 intro w s
 refine seqR ?_
 refine oKD [] [] 3 [] 0 (fun φ1 => [(6, .bool false), (5, .string ⟨#[]⟩), (4, .string ⟨#[]⟩)]) (fun φ1 => []) s (fun φ1 => by kernel_rfl) (by kernel_rfl) ?_
 intro φ1 w1 s
 refine seqR ?_
 refine oK [] [] 2 [] 0 (fun φ2 => [(8, .string ⟨#[64]⟩), (7, .string ⟨(l).toArray⟩)]) (fun φ2 => []) s (fun φ2 => by kernel_rfl) ?_
 intro φ2 w2 s
 refine call_rule (some 9) s (cutL_miss hn h) (by kernel_rfl) ?_
 intro v3 I3 w3 le3 h3 s
 obtain rfl := h3
 refine oKD [] [] 6 [] 0 (fun φ4 => [(6, .bool false), (5, .string ⟨(([] : List UInt8)).toArray⟩), (4, .string ⟨(l).toArray⟩), (12, .bool false), (11, .string ⟨(([] : List UInt8)).toArray⟩), (10, .string ⟨(l).toArray⟩)]) (fun φ4 => []) s (fun φ4 => by kernel_rfl) (by kernel_rfl) ?_
 intro φ4 w4 s
 refine wp_ret ?_
 refine ret_rule (C := []) [] [] (.tuple #[.string ⟨(l).toArray⟩, .string ⟨(([] : List UInt8)).toArray⟩, .bool false]) [] [] s trivial (by kernel_rfl) ?_
 exact ⟨_, _, _, rfl, s, rfl⟩

set_option maxHeartbeats 1000000 in
theorem indexS_hit {I : IM} {l : List UInt8} (hn : l.length ≤ 1000000) {o : Nat} (h : ixB 46 l = some o) : Fun Tryd.prog 141 #[.string ⟨(l).toArray⟩, .string ⟨#[46]⟩] I (fun v J => v = .int .i64 ((o : Nat) : Int)) := by
 refine enter_rule 8 [(0, .string ⟨(l).toArray⟩), (1, .string ⟨#[46]⟩)] Tryd.func141 rfl (by kernel_rfl) ?_
 intro w s
 refine seqR ?_
 refine oKD [] [] 1 [] 0 (fun φ1 => [(4, .int .i64 0)]) (fun φ1 => []) s (fun φ1 => by kernel_rfl) (by kernel_rfl) ?_
 intro φ1 w1 s
 refine seqR ?_
 refine oK [] [] 2 [] 0 (fun φ2 => [(6, .string ⟨#[46]⟩), (5, .string ⟨(l).toArray⟩)]) (fun φ2 => []) s (fun φ2 => by kernel_rfl) ?_
 intro φ2 w2 s
 refine call_rule (some 7) s (idx_hit (l := l) h) (by kernel_rfl) ?_
 intro v3 I3 w3 le3 h3 s
 obtain rfl := h3
 refine oKD [] [] 1 [] 0 (fun φ4 => [(4, .int .i64 o)]) (fun φ4 => []) s (fun φ4 => by kernel_rfl) (by kernel_rfl) ?_
 intro φ4 w4 s
 refine wp_ret ?_
 refine ret_rule (C := []) [] [] (.int .i64 o) [] [] s trivial (by kernel_rfl) ?_
 exact ⟨_, _, _, rfl, s, rfl⟩

set_option maxHeartbeats 1000000 in
theorem indexS_miss {I : IM} {l : List UInt8} (hn : l.length ≤ 1000000) (h : ixB 46 l = none) : Fun Tryd.prog 141 #[.string ⟨(l).toArray⟩, .string ⟨#[46]⟩] I (fun v J => v = .int .i64 (-1)) := by
 refine enter_rule 8 [(0, .string ⟨(l).toArray⟩), (1, .string ⟨#[46]⟩)] Tryd.func141 rfl (by kernel_rfl) ?_
 intro w s
 refine seqR ?_
 refine oKD [] [] 1 [] 0 (fun φ1 => [(4, .int .i64 0)]) (fun φ1 => []) s (fun φ1 => by kernel_rfl) (by kernel_rfl) ?_
 intro φ1 w1 s
 refine seqR ?_
 refine oK [] [] 2 [] 0 (fun φ2 => [(6, .string ⟨#[46]⟩), (5, .string ⟨(l).toArray⟩)]) (fun φ2 => []) s (fun φ2 => by kernel_rfl) ?_
 intro φ2 w2 s
 refine call_rule (some 7) s (idx_miss (l := l) h) (by kernel_rfl) ?_
 intro v3 I3 w3 le3 h3 s
 obtain rfl := h3
 refine oKD [] [] 1 [] 0 (fun φ4 => [(4, .int .i64 (-1))]) (fun φ4 => []) s (fun φ4 => by kernel_rfl) (by kernel_rfl) ?_
 intro φ4 w4 s
 refine wp_ret ?_
 refine ret_rule (C := []) [] [] (.int .i64 (-1)) [] [] s trivial (by kernel_rfl) ?_
 exact ⟨_, _, _, rfl, s, rfl⟩

set_option maxHeartbeats 1000000 in
theorem containsS_hit {I : IM} {l : List UInt8} (hn : l.length ≤ 1000000) {o : Nat} (h : ixB 46 l = some o) : Fun Tryd.prog 134 #[.string ⟨(l).toArray⟩, .string ⟨#[46]⟩] I (fun v J => v = .bool true) := by
 refine enter_rule 9 [(0, .string ⟨(l).toArray⟩), (1, .string ⟨#[46]⟩)] Tryd.func134 rfl (by kernel_rfl) ?_
 intro w s
 refine seqR ?_
 refine oKD [] [] 1 [] 0 (fun φ1 => [(4, .bool false)]) (fun φ1 => []) s (fun φ1 => by kernel_rfl) (by kernel_rfl) ?_
 intro φ1 w1 s
 refine seqR ?_
 refine oK [] [] 2 [] 0 (fun φ2 => [(6, .string ⟨#[46]⟩), (5, .string ⟨(l).toArray⟩)]) (fun φ2 => []) s (fun φ2 => by kernel_rfl) ?_
 intro φ2 w2 s
 refine call_rule (some 7) s (indexS_hit hn h) (by kernel_rfl) ?_
 intro v3 I3 w3 le3 h3 s
 obtain rfl := h3
 refine oK [] [] 2 [] 0 (fun φ4 => [(4, .bool (decide (((o : Nat) : Int) ≥ ((0 : Nat) : Int)))), (8, .bool (decide (((o : Nat) : Int) ≥ ((0 : Nat) : Int))))]) (fun φ4 => []) s (fun φ4 => by kernel_rfl) ?_
 intro φ4 w4 s
 rw [nat_geq (a := o) (b := 0)]
 refine ops_done (by kernel_rfl) ?_
 refine wp_ret ?_
 refine ret_rule (C := []) [] [] (.bool (decide (0 ≤ o))) [] [] s trivial (by kernel_rfl) ?_
 exact ⟨_, _, _, rfl, s, (congrArg Value.bool (by first | rfl | exact decide_eq_true (by omega)))⟩

set_option maxHeartbeats 1000000 in
theorem containsS_miss {I : IM} {l : List UInt8} (hn : l.length ≤ 1000000) (h : ixB 46 l = none) : Fun Tryd.prog 134 #[.string ⟨(l).toArray⟩, .string ⟨#[46]⟩] I (fun v J => v = .bool false) := by
 refine enter_rule 9 [(0, .string ⟨(l).toArray⟩), (1, .string ⟨#[46]⟩)] Tryd.func134 rfl (by kernel_rfl) ?_
 intro w s
 refine seqR ?_
 refine oKD [] [] 1 [] 0 (fun φ1 => [(4, .bool false)]) (fun φ1 => []) s (fun φ1 => by kernel_rfl) (by kernel_rfl) ?_
 intro φ1 w1 s
 refine seqR ?_
 refine oK [] [] 2 [] 0 (fun φ2 => [(6, .string ⟨#[46]⟩), (5, .string ⟨(l).toArray⟩)]) (fun φ2 => []) s (fun φ2 => by kernel_rfl) ?_
 intro φ2 w2 s
 refine call_rule (some 7) s (indexS_miss hn h) (by kernel_rfl) ?_
 intro v3 I3 w3 le3 h3 s
 obtain rfl := h3
 refine oKD [] [] 2 [] 0 (fun φ4 => [(4, .bool false), (8, .bool false)]) (fun φ4 => []) s (fun φ4 => by kernel_rfl) (by kernel_rfl) ?_
 intro φ4 w4 s
 refine wp_ret ?_
 refine ret_rule (C := []) [] [] (.bool false) [] [] s trivial (by kernel_rfl) ?_
 exact ⟨_, _, _, rfl, s, rfl⟩

theorem containsS_c {I : IM} {l : List UInt8} (hn : l.length ≤ 1000000) : Fun Tryd.prog 134 #[.string ⟨(l).toArray⟩, .string ⟨#[46]⟩] I (fun v J => v = .bool (hasB 46 l)) := by
  cases q : ixB 46 l with
  | none => have := containsS_miss (I := I) hn q; unfold hasB; rw [q]; exact this
  | some o => have := containsS_hit (I := I) hn q; unfold hasB; rw [q]; exact this

set_option maxHeartbeats 1000000 in
theorem prefixL_c {I : IM} {l : List UInt8} (hn : l.length ≤ 1000000) : Fun Tryd.prog 142 #[.string ⟨(l).toArray⟩, .string ⟨#[46]⟩] I (fun v J => v = .bool (decide (l.take 1 = [46]))) := by
 refine enter_rule 18 [(0, .string ⟨(l).toArray⟩), (1, .string ⟨#[46]⟩)] Tryd.func142 rfl (by kernel_rfl) ?_
 intro w s
 refine seqR ?_
 refine oKD [] [] 1 [] 0 (fun φ1 => [(4, .bool false)]) (fun φ1 => []) s (fun φ1 => by kernel_rfl) (by kernel_rfl) ?_
 intro φ1 w1 s
 refine seqR ?_
 refine oK [] [] 6 [] 0 (fun φ2 => [(10, .bool (decide (((l.length : Nat) : Int) ≥ ((1 : Nat) : Int)))), (9, .bool (decide (((l.length : Nat) : Int) ≥ ((1 : Nat) : Int)))), (8, .int .i64 1), (7, .string ⟨#[46]⟩), (6, .int .i64 l.length), (5, .string ⟨(l).toArray⟩)]) (fun φ2 => []) s (fun φ2 => by kernel_rfl) ?_
 intro φ2 w2 s
 rw [nat_geq (a := l.length) (b := 1)]
 rcases Bool.eq_false_or_eq_true (decide (1 ≤ l.length)) with hc3 | hc3
 ·
  rw [hc3]
  refine oK [] [] 3 [] 0 (fun φ4 => [(13, .int .i64 1), (12, .string ⟨#[46]⟩), (11, .string ⟨(l).toArray⟩)]) (fun φ4 => []) s (fun φ4 => by kernel_rfl) ?_
  intro φ4 w4 s
  refine sem_rule (Instr.sliceAt 9 (.string ⟨(l).toArray⟩) none (some (.int .i64 ((1 : Nat) : Int))) none) (some 14) (.string ⟨((l.take 1)).toArray⟩) (by kernel_rfl) (run_takeS (s := l) (hi := 1) (by  have hq0 := dT9 hc3; (try simp only [List.length_drop, List.length_take, List.length_append, List.length_cons, List.length_nil]); omega)) ?_
  refine oK [] [] 1 [] 0 (fun φ5 => [(15, .string ⟨#[46]⟩)]) (fun φ5 => []) s (fun φ5 => by kernel_rfl) ?_
  intro φ5 w5 s
  refine sem_rule (binOp .eql 9 (.string ⟨((l.take 1)).toArray⟩) (.string ⟨(([46] : List UInt8)).toArray⟩)) (some 16) (.bool (decide ((l.take 1) = ([46] : List UInt8)))) (by kernel_rfl) (run_eqS (x := (l.take 1)) (y := ([46] : List UInt8))) ?_
  refine oKD [] [] 2 [] 0 (fun φ6 => [(4, .bool (decide ((l.take 1) = ([46] : List UInt8)))), (17, .bool (decide ((l.take 1) = ([46] : List UInt8))))]) (fun φ6 => []) s (fun φ6 => by kernel_rfl) (by kernel_rfl) ?_
  intro φ6 w6 s
  refine wp_ret ?_
  refine ret_rule (C := []) [] [] (.bool (decide ((l.take 1) = ([46] : List UInt8)))) [] [] s trivial (by kernel_rfl) ?_
  exact ⟨_, _, _, rfl, s, rfl⟩
 ·
  rw [hc3]
  refine oKD [] [] 8 [] 0 (fun φ7 => [(4, .bool false), (17, .bool false), (16, undef), (15, undef), (14, undef), (13, undef), (12, undef), (11, undef)]) (fun φ7 => []) s (fun φ7 => by kernel_rfl) (by kernel_rfl) ?_
  intro φ7 w7 s
  refine wp_ret ?_
  refine ret_rule (C := []) [] [] (.bool false) [] [] s trivial (by kernel_rfl) ?_
  exact ⟨_, _, _, rfl, s, (congrArg Value.bool (pre_short (by have hq0 := dF9 hc3; omega)).symm)⟩

set_option maxHeartbeats 1000000 in
theorem prefixS_c {I : IM} {l : List UInt8} (hn : l.length ≤ 1000000) : Fun Tryd.prog 135 #[.string ⟨(l).toArray⟩, .string ⟨#[46]⟩] I (fun v J => v = .bool (decide (l.take 1 = [46]))) := by
 refine enter_rule 8 [(0, .string ⟨(l).toArray⟩), (1, .string ⟨#[46]⟩)] Tryd.func135 rfl (by kernel_rfl) ?_
 intro w s
 refine seqR ?_
 refine oKD [] [] 1 [] 0 (fun φ1 => [(4, .bool false)]) (fun φ1 => []) s (fun φ1 => by kernel_rfl) (by kernel_rfl) ?_
 intro φ1 w1 s
 refine seqR ?_
 refine oK [] [] 2 [] 0 (fun φ2 => [(6, .string ⟨#[46]⟩), (5, .string ⟨(l).toArray⟩)]) (fun φ2 => []) s (fun φ2 => by kernel_rfl) ?_
 intro φ2 w2 s
 refine call_rule (some 7) s (prefixL_c hn) (by kernel_rfl) ?_
 intro v3 I3 w3 le3 h3 s
 obtain rfl := h3
 refine oKD [] [] 1 [] 0 (fun φ4 => [(4, .bool (decide (l.take 1 = [46])))]) (fun φ4 => []) s (fun φ4 => by kernel_rfl) (by kernel_rfl) ?_
 intro φ4 w4 s
 refine wp_ret ?_
 refine ret_rule (C := []) [] [] (.bool (decide (l.take 1 = [46]))) [] [] s trivial (by kernel_rfl) ?_
 exact ⟨_, _, _, rfl, s, rfl⟩

set_option maxHeartbeats 1000000 in
theorem suffixL_c {I : IM} {l : List UInt8} (hn : l.length ≤ 1000000) : Fun Tryd.prog 143 #[.string ⟨(l).toArray⟩, .string ⟨#[46]⟩] I (fun v J => v = .bool (decide (l.drop (l.length - 1) = [46]))) := by
 refine enter_rule 21 [(0, .string ⟨(l).toArray⟩), (1, .string ⟨#[46]⟩)] Tryd.func143 rfl (by kernel_rfl) ?_
 intro w s
 refine seqR ?_
 refine oKD [] [] 1 [] 0 (fun φ1 => [(4, .bool false)]) (fun φ1 => []) s (fun φ1 => by kernel_rfl) (by kernel_rfl) ?_
 intro φ1 w1 s
 refine seqR ?_
 refine oK [] [] 6 [] 0 (fun φ2 => [(10, .bool (decide (((l.length : Nat) : Int) ≥ ((1 : Nat) : Int)))), (9, .bool (decide (((l.length : Nat) : Int) ≥ ((1 : Nat) : Int)))), (8, .int .i64 1), (7, .string ⟨#[46]⟩), (6, .int .i64 l.length), (5, .string ⟨(l).toArray⟩)]) (fun φ2 => []) s (fun φ2 => by kernel_rfl) ?_
 intro φ2 w2 s
 rw [nat_geq (a := l.length) (b := 1)]
 rcases Bool.eq_false_or_eq_true (decide (1 ≤ l.length)) with hc3 | hc3
 ·
  rw [hc3]
  refine oK [] [] 6 [] 0 (fun φ4 => [(16, .int .i64 (IntKind.wrap .i64 (((l.length : Nat) : Int) - ((1 : Nat) : Int)))), (15, .int .i64 1), (14, .string ⟨#[46]⟩), (13, .int .i64 l.length), (12, .string ⟨(l).toArray⟩), (11, .string ⟨(l).toArray⟩)]) (fun φ4 => []) s (fun φ4 => by kernel_rfl) ?_
  intro φ4 w4 s
  rw [nat_subI (a := l.length) (b := 1) (by  have hq0 := dT9 hc3; (try simp only [List.length_drop, List.length_take, List.length_append, List.length_cons, List.length_nil]); omega) (by  have hq0 := dT9 hc3; (try simp only [List.length_drop, List.length_take, List.length_append, List.length_cons, List.length_nil]); omega)]
  refine sem_rule (Instr.sliceAt 9 (.string ⟨(l).toArray⟩) (some (.int .i64 ((l.length - 1 : Nat) : Int))) none none) (some 17) (.string ⟨((l.drop (l.length - 1))).toArray⟩) (by kernel_rfl) (run_dropStr (s := l) (lo := l.length - 1) under9 (by  have hq0 := dT9 hc3; (try simp only [List.length_drop, List.length_take, List.length_append, List.length_cons, List.length_nil]); omega)) ?_
  refine oK [] [] 1 [] 0 (fun φ5 => [(18, .string ⟨#[46]⟩)]) (fun φ5 => []) s (fun φ5 => by kernel_rfl) ?_
  intro φ5 w5 s
  refine sem_rule (binOp .eql 9 (.string ⟨((l.drop (l.length - 1))).toArray⟩) (.string ⟨(([46] : List UInt8)).toArray⟩)) (some 19) (.bool (decide ((l.drop (l.length - 1)) = ([46] : List UInt8)))) (by kernel_rfl) (run_eqS (x := (l.drop (l.length - 1))) (y := ([46] : List UInt8))) ?_
  refine oKD [] [] 2 [] 0 (fun φ6 => [(4, .bool (decide ((l.drop (l.length - 1)) = ([46] : List UInt8)))), (20, .bool (decide ((l.drop (l.length - 1)) = ([46] : List UInt8))))]) (fun φ6 => []) s (fun φ6 => by kernel_rfl) (by kernel_rfl) ?_
  intro φ6 w6 s
  refine wp_ret ?_
  refine ret_rule (C := []) [] [] (.bool (decide ((l.drop (l.length - 1)) = ([46] : List UInt8)))) [] [] s trivial (by kernel_rfl) ?_
  exact ⟨_, _, _, rfl, s, rfl⟩
 ·
  rw [hc3]
  refine oKD [] [] 11 [] 0 (fun φ7 => [(4, .bool false), (20, .bool false), (19, undef), (18, undef), (17, undef), (16, undef), (15, undef), (14, undef), (13, undef), (12, undef), (11, undef)]) (fun φ7 => []) s (fun φ7 => by kernel_rfl) (by kernel_rfl) ?_
  intro φ7 w7 s
  refine wp_ret ?_
  refine ret_rule (C := []) [] [] (.bool false) [] [] s trivial (by kernel_rfl) ?_
  exact ⟨_, _, _, rfl, s, (congrArg Value.bool (suf_short (by have hq0 := dF9 hc3; omega)).symm)⟩

set_option maxHeartbeats 1000000 in
theorem suffixS_c {I : IM} {l : List UInt8} (hn : l.length ≤ 1000000) : Fun Tryd.prog 136 #[.string ⟨(l).toArray⟩, .string ⟨#[46]⟩] I (fun v J => v = .bool (decide (l.drop (l.length - 1) = [46]))) := by
 refine enter_rule 8 [(0, .string ⟨(l).toArray⟩), (1, .string ⟨#[46]⟩)] Tryd.func136 rfl (by kernel_rfl) ?_
 intro w s
 refine seqR ?_
 refine oKD [] [] 1 [] 0 (fun φ1 => [(4, .bool false)]) (fun φ1 => []) s (fun φ1 => by kernel_rfl) (by kernel_rfl) ?_
 intro φ1 w1 s
 refine seqR ?_
 refine oK [] [] 2 [] 0 (fun φ2 => [(6, .string ⟨#[46]⟩), (5, .string ⟨(l).toArray⟩)]) (fun φ2 => []) s (fun φ2 => by kernel_rfl) ?_
 intro φ2 w2 s
 refine call_rule (some 7) s (suffixL_c hn) (by kernel_rfl) ?_
 intro v3 I3 w3 le3 h3 s
 obtain rfl := h3
 refine oKD [] [] 1 [] 0 (fun φ4 => [(4, .bool (decide (l.drop (l.length - 1) = [46])))]) (fun φ4 => []) s (fun φ4 => by kernel_rfl) (by kernel_rfl) ?_
 intro φ4 w4 s
 refine wp_ret ?_
 refine ret_rule (C := []) [] [] (.bool (decide (l.drop (l.length - 1) = [46]))) [] [] s trivial (by kernel_rfl) ?_
 exact ⟨_, _, _, rfl, s, rfl⟩

end Go.Proofs.YtcpmjogeafhpnaaDoor.Tx
/- A mail's address: the program's. -/
set_option linter.all false
set_option maxRecDepth 100000
namespace Go.Proofs.YtcpmjogeafhpnaaDoor.Tx
open Go.RowKit Go.Sep
attribute [local irreducible] Go.wpList Go.Code.wp

theorem run_neS {w : World} {t : TypeId} {x y : List UInt8} : (binOp .neq t (.string ⟨x.toArray⟩) (.string ⟨y.toArray⟩)).run Tryd.prog w = .ok (.bool (!(decide (x = y)))) w := by
  show (Op.stringOp .neq _ _).run Tryd.prog w = _
  unfold Op.stringOp
  simp only [strL_beq]; rfl

set_option maxHeartbeats 2000000 in
theorem isPart_c {I : IM} {l : List UInt8} (hn : l.length ≤ 1000000) : Fun Tryd.prog 124 #[.string ⟨(l).toArray⟩] I (fun v J => v = .bool (part l)) := by
 refine enter_rule 22 [(0, .string ⟨(l).toArray⟩)] Tryd.func124 rfl (by kernel_rfl) ?_
 intro w s
 refine seqR ?_
 refine ops_rule (C := []) [] [] 1 [] 0 (fun φ1 => [(2, .bool false)]) (fun φ1 => []) (fun φ1 => []) s trivial (fun φ1 => by kernel_rfl) ?_
 intro φ1 w1 s
 refine ops_done (by kernel_rfl) ?_
 refine wp_seq ?_
 refine seqR ?_
 refine ops_rule (C := []) [] [] 1 [] 0 (fun φ2 => [(5, .string ⟨(l).toArray⟩)]) (fun φ2 => []) (fun φ2 => []) s trivial (fun φ2 => by kernel_rfl) ?_
 intro φ2 w2 s
 obtain ⟨k3, w3, hr3, s⟩ := range_new (H := []) s ⟨(l).toArray⟩
 refine sem_rule (Instr.range 9 (.string ⟨(l).toArray⟩)) (some 6) (.pointer (some ⟨k3, 0, none⟩)) (by kernel_rfl) hr3 ?_
 refine ops_done (by kernel_rfl) ?_
 refine wp_block ?_
 have hle4 := IM.Le.refl I
 refine loop_rule (fun (x : Nat) => [(0, .string ⟨(l).toArray⟩), (2, .bool false), (6, .pointer (some ⟨k3, 0, none⟩))]) (fun (x : Nat) => [(k3, .stringIter ⟨(l).toArray⟩ x)]) (fun m (x : Nat) J => IM.Le I J ∧ l.length ≤ x + m ∧ l.all okM = (l.drop x).all okM) (l.length) 0 s (by kernel_rfl) (List.Sublist.cons₂ _ List.Sublist.slnil) ⟨IM.Le.refl _, by omega, rfl⟩ ?_
 rintro m5 p5 I5 w5 ev5 s ⟨le5, hi5_0, hi5_1⟩
 try dsimp only at s hi5_0 hi5_1 ⊢
 replace hle4 := leMono le5 hle4
 refine seqR ?_
 rcases Bool.eq_false_or_eq_true (decide (p5 < l.length)) with hc6 | hc6
 ·
  obtain ⟨w7, hr7, s⟩ := next_own (k := k3) (pos := p5) (l := l) (ty := 0) s (dT9 hc6)
  refine sem_rule (Instr.next (.pointer (some ⟨k3, 0, none⟩)) true 0) (some 7) (.tuple #[.bool true, .int .i64 ((p5 : Nat) : Int), .int .i32 ((dR l p5 : Nat) : Int)]) (by kernel_rfl) hr7 ?_
  refine ops_rule (C := []) [(k3, .stringIter ⟨(l).toArray⟩ (p5 + dW l p5))] [] 1 [] 0 (fun φ8 => [(8, .bool true)]) (fun φ8 => [(k3, .stringIter ⟨(l).toArray⟩ (p5 + dW l p5))]) (fun φ8 => []) s trivial (fun φ8 => by kernel_rfl) ?_
  intro φ8 w8 s
  refine ops_done (by kernel_rfl) ?_
  refine wp_seq ?_
  refine cond_true_rule (b := true) (by kernel_rfl) rfl ?_
  refine wp_skip ?_
  refine wp_block ?_
  refine seqR ?_
  refine ops_rule (C := []) [(k3, .stringIter ⟨(l).toArray⟩ (p5 + dW l p5))] [] 2 [] 0 (fun φ9 => [(4, .int .i32 ((dR l p5 : Nat) : Int)), (9, .int .i32 ((dR l p5 : Nat) : Int))]) (fun φ9 => [(k3, .stringIter ⟨(l).toArray⟩ (p5 + dW l p5))]) (fun φ9 => []) s trivial (fun φ9 => by kernel_rfl) ?_
  intro φ9 w9 s
  refine ops_done (by kernel_rfl) ?_
  refine seqR ?_
  refine ops_rule (C := []) [(k3, .stringIter ⟨(l).toArray⟩ (p5 + dW l p5))] [] 3 [] 0 (fun φ10 => [(12, .bool (decide (((dR l p5 : Nat) : Int) ≤ ((32 : Nat) : Int)))), (11, .bool (decide (((dR l p5 : Nat) : Int) ≤ ((32 : Nat) : Int)))), (10, .int .i32 ((dR l p5 : Nat) : Int))]) (fun φ10 => [(k3, .stringIter ⟨(l).toArray⟩ (p5 + dW l p5))]) (fun φ10 => []) s trivial (fun φ10 => by kernel_rfl) ?_
  intro φ10 w10 s
  rw [nat_leq (a := (dR l p5)) (b := 32)]
  rcases Bool.eq_false_or_eq_true (decide ((dR l p5) ≤ 32)) with hc11 | hc11
  ·
   rw [hc11]
   refine ops_rule (C := []) [(k3, .stringIter ⟨(l).toArray⟩ (p5 + dW l p5))] [] 7 [] 0 (fun φ12 => [(19, .bool true), (18, undef), (17, undef), (16, .bool true), (15, .bool true), (14, undef), (13, undef)]) (fun φ12 => [(k3, .stringIter ⟨(l).toArray⟩ (p5 + dW l p5))]) (fun φ12 => []) s trivial (fun φ12 => by kernel_rfl) ?_
   intro φ12 w12 s
   refine ops_done (by kernel_rfl) ?_
   refine cond_true_rule (b := true) (by kernel_rfl) rfl ?_
   refine seqR ?_
   refine ops_rule (C := []) [(k3, .stringIter ⟨(l).toArray⟩ (p5 + dW l p5))] [] 1 [] 0 (fun φ13 => [(2, .bool false)]) (fun φ13 => [(k3, .stringIter ⟨(l).toArray⟩ (p5 + dW l p5))]) (fun φ13 => []) s trivial (fun φ13 => by kernel_rfl) ?_
   intro φ13 w13 s
   refine ops_done (by kernel_rfl) ?_
   refine wp_ret ?_
   refine ret_rule (C := []) [(k3, .stringIter ⟨(l).toArray⟩ (p5 + dW l p5))] [] (.bool false) [] [] s trivial (by kernel_rfl) ?_
   exact ⟨_, _, _, rfl, s, (congrArg Value.bool (part_no (pa_no (dT9 hc6) (okM_no (by have hs9 := dR_or l p5; have hq0 := dT9 hc6; have hq1 := dT9 hc11; omega)) hi5_1)).symm)⟩
  ·
   rw [hc11]
   refine ops_rule (C := []) [(k3, .stringIter ⟨(l).toArray⟩ (p5 + dW l p5))] [] 4 [] 0 (fun φ14 => [(16, .bool (decide (((dR l p5 : Nat) : Int) ≥ ((127 : Nat) : Int)))), (15, .bool (decide (((dR l p5 : Nat) : Int) ≥ ((127 : Nat) : Int)))), (14, .bool (decide (((dR l p5 : Nat) : Int) ≥ ((127 : Nat) : Int)))), (13, .int .i32 ((dR l p5 : Nat) : Int))]) (fun φ14 => [(k3, .stringIter ⟨(l).toArray⟩ (p5 + dW l p5))]) (fun φ14 => []) s trivial (fun φ14 => by kernel_rfl) ?_
   intro φ14 w14 s
   rw [nat_geq (a := (dR l p5)) (b := 127)]
   rcases Bool.eq_false_or_eq_true (decide (127 ≤ (dR l p5))) with hc15 | hc15
   ·
    rw [hc15]
    refine ops_rule (C := []) [(k3, .stringIter ⟨(l).toArray⟩ (p5 + dW l p5))] [] 3 [] 0 (fun φ16 => [(19, .bool true), (18, undef), (17, undef)]) (fun φ16 => [(k3, .stringIter ⟨(l).toArray⟩ (p5 + dW l p5))]) (fun φ16 => []) s trivial (fun φ16 => by kernel_rfl) ?_
    intro φ16 w16 s
    refine ops_done (by kernel_rfl) ?_
    refine cond_true_rule (b := true) (by kernel_rfl) rfl ?_
    refine seqR ?_
    refine ops_rule (C := []) [(k3, .stringIter ⟨(l).toArray⟩ (p5 + dW l p5))] [] 1 [] 0 (fun φ17 => [(2, .bool false)]) (fun φ17 => [(k3, .stringIter ⟨(l).toArray⟩ (p5 + dW l p5))]) (fun φ17 => []) s trivial (fun φ17 => by kernel_rfl) ?_
    intro φ17 w17 s
    refine ops_done (by kernel_rfl) ?_
    refine wp_ret ?_
    refine ret_rule (C := []) [(k3, .stringIter ⟨(l).toArray⟩ (p5 + dW l p5))] [] (.bool false) [] [] s trivial (by kernel_rfl) ?_
    exact ⟨_, _, _, rfl, s, (congrArg Value.bool (part_no (pa_no (dT9 hc6) (okM_no (by have hs9 := dR_or l p5; have hq0 := dT9 hc6; have hq1 := dF9 hc11; have hq2 := dT9 hc15; omega)) hi5_1)).symm)⟩
   ·
    rw [hc15]
    refine ops_rule (C := []) [(k3, .stringIter ⟨(l).toArray⟩ (p5 + dW l p5))] [] 3 [] 0 (fun φ18 => [(19, .bool (((dR l p5 : Nat) : Int) == ((64 : Nat) : Int))), (18, .bool (((dR l p5 : Nat) : Int) == ((64 : Nat) : Int))), (17, .int .i32 ((dR l p5 : Nat) : Int))]) (fun φ18 => [(k3, .stringIter ⟨(l).toArray⟩ (p5 + dW l p5))]) (fun φ18 => []) s trivial (fun φ18 => by kernel_rfl) ?_
    intro φ18 w18 s
    rw [nat_eql (a := (dR l p5)) (b := 64)]
    refine ops_done (by kernel_rfl) ?_
    rcases Bool.eq_false_or_eq_true (decide ((dR l p5) = 64)) with hc19 | hc19
    ·
     rw [hc19]
     refine cond_true_rule (b := true) (by kernel_rfl) rfl ?_
     refine seqR ?_
     refine ops_rule (C := []) [(k3, .stringIter ⟨(l).toArray⟩ (p5 + dW l p5))] [] 1 [] 0 (fun φ20 => [(2, .bool false)]) (fun φ20 => [(k3, .stringIter ⟨(l).toArray⟩ (p5 + dW l p5))]) (fun φ20 => []) s trivial (fun φ20 => by kernel_rfl) ?_
     intro φ20 w20 s
     refine ops_done (by kernel_rfl) ?_
     refine wp_ret ?_
     refine ret_rule (C := []) [(k3, .stringIter ⟨(l).toArray⟩ (p5 + dW l p5))] [] (.bool false) [] [] s trivial (by kernel_rfl) ?_
     exact ⟨_, _, _, rfl, s, (congrArg Value.bool (part_no (pa_no (dT9 hc6) (okM_no (by have hs9 := dR_or l p5; have hq0 := dT9 hc6; have hq1 := dF9 hc11; have hq2 := dF9 hc15; have hq3 := dT9 hc19; omega)) hi5_1)).symm)⟩
    ·
     rw [hc19]
     refine cond_false_rule (b := false) (by kernel_rfl) rfl ?_
     refine wp_skip ?_
     have hq9 := dT9 hc6
     have hs9 := dR_small (l := l) (p := p5) (by have hq0 := dT9 hc6; have hq1 := dF9 hc11; have hq2 := dF9 hc15; have hq3 := dF9 hc19; omega)
     exact ⟨⟨m5 - 1, p5 + dW l p5, _, _, _, by omega, rfl, s, (List.Sublist.cons₂ _ List.Sublist.slnil), by kernel_rfl, hle4, by show l.length ≤ p5 + dW l p5 + (m5 - 1); omega, by rw [hs9.2]; exact pa_go hq9 (okM_yes (by have hq0 := dT9 hc6; have hq1 := dF9 hc11; have hq2 := dF9 hc15; have hq3 := dF9 hc19; omega)) hi5_1⟩⟩
 ·
  refine sem_rule (Instr.next (.pointer (some ⟨k3, 0, none⟩)) true 0) (some 7) (.tuple #[.bool false]) (by kernel_rfl) (next_end (k := k3) (pos := p5) (l := l) (ty := 0) s (dF9 hc6)) ?_
  refine ops_rule (C := []) [(k3, .stringIter ⟨(l).toArray⟩ p5)] [] 1 [] 0 (fun φ22 => [(8, .bool false)]) (fun φ22 => [(k3, .stringIter ⟨(l).toArray⟩ p5)]) (fun φ22 => []) s trivial (fun φ22 => by kernel_rfl) ?_
  intro φ22 w22 s
  refine ops_done (by kernel_rfl) ?_
  refine wp_seq ?_
  refine cond_false_rule (b := false) (by kernel_rfl) rfl ?_
  refine wp_exit ?_
  refine seqR ?_
  refine ops_rule (C := []) [(k3, .stringIter ⟨(l).toArray⟩ p5)] [] 1 [] 0 (fun φ23 => [(20, .string ⟨(l).toArray⟩)]) (fun φ23 => [(k3, .stringIter ⟨(l).toArray⟩ p5)]) (fun φ23 => []) s trivial (fun φ23 => by kernel_rfl) ?_
  intro φ23 w23 s
  refine sem_rule (binOp .neq 9 (.string ⟨(l).toArray⟩) (.string ⟨(([] : List UInt8)).toArray⟩)) (some 21) (.bool (!(decide (l = ([] : List UInt8))))) (by kernel_rfl) (run_neS (x := l) (y := ([] : List UInt8))) ?_
  refine ops_rule (C := []) [(k3, .stringIter ⟨(l).toArray⟩ p5)] [] 1 [] 0 (fun φ24 => [(2, .bool (!(decide (l = ([] : List UInt8)))))]) (fun φ24 => [(k3, .stringIter ⟨(l).toArray⟩ p5)]) (fun φ24 => []) s trivial (fun φ24 => by kernel_rfl) ?_
  intro φ24 w24 s
  refine ops_done (by kernel_rfl) ?_
  refine wp_ret ?_
  refine ret_rule (C := []) [(k3, .stringIter ⟨(l).toArray⟩ p5)] [] (.bool (!(decide (l = ([] : List UInt8))))) [] [] s trivial (by kernel_rfl) ?_
  exact ⟨_, _, _, rfl, s, (congrArg Value.bool (part_yes (pa_all (dF9 hc6) hi5_1)).symm)⟩

set_option maxHeartbeats 2000000 in
theorem pointW_c {I : IM} {l : List UInt8} (hn : l.length ≤ 1000000) : Fun Tryd.prog 125 #[.string ⟨(l).toArray⟩] I (fun v J => v = .bool (point l)) := by
 refine enter_rule 15 [(0, .string ⟨(l).toArray⟩)] Tryd.func125 rfl (by kernel_rfl) ?_
 intro w s
 refine seqR ?_
 refine oKD [] [] 1 [] 0 (fun φ1 => [(2, .bool false)]) (fun φ1 => []) s (fun φ1 => by kernel_rfl) (by kernel_rfl) ?_
 intro φ1 w1 s
 refine seqR ?_
 refine oK [] [] 1 [] 0 (fun φ2 => [(3, .string ⟨(l).toArray⟩)]) (fun φ2 => []) s (fun φ2 => by kernel_rfl) ?_
 intro φ2 w2 s
 refine call_rule (some 4) s (containsS_c hn) (by kernel_rfl) ?_
 intro v3 I3 w3 le3 h3 s
 obtain rfl := h3
 refine oK [] [] 1 [] 0 (fun φ4 => [(5, .bool (hasB 46 l))]) (fun φ4 => []) s (fun φ4 => by kernel_rfl) ?_
 intro φ4 w4 s
 rcases Bool.eq_false_or_eq_true (hasB 46 l) with hc5 | hc5
 ·
  rw [hc5]
  refine oK [] [] 1 [] 0 (fun φ6 => [(6, .string ⟨(l).toArray⟩)]) (fun φ6 => []) s (fun φ6 => by kernel_rfl) ?_
  intro φ6 w6 s
  refine call_rule (some 7) s (prefixS_c hn) (by kernel_rfl) ?_
  intro v7 I7 w7 le7 h7 s
  obtain rfl := h7
  refine oK [] [] 3 [] 0 (fun φ8 => [(10, .bool (!(decide (l.take 1 = [46])))), (9, .bool (!(decide (l.take 1 = [46])))), (8, .bool (!(decide (l.take 1 = [46]))))]) (fun φ8 => []) s (fun φ8 => by kernel_rfl) ?_
  intro φ8 w8 s
  rcases Bool.eq_false_or_eq_true (decide (l.take 1 = [46])) with hc9 | hc9
  ·
   rw [hc9]
   refine oKD [] [] 5 [] 0 (fun φ10 => [(2, .bool false), (14, .bool false), (13, undef), (12, undef), (11, undef)]) (fun φ10 => []) s (fun φ10 => by kernel_rfl) (by kernel_rfl) ?_
   intro φ10 w10 s
   refine wp_ret ?_
   refine ret_rule (C := []) [] [] (.bool false) [] [] s trivial (by kernel_rfl) ?_
   exact ⟨_, _, _, rfl, s, (congrArg Value.bool (by unfold point; simp [hc5, hc9]))⟩
  ·
   rw [hc9]
   refine oK [] [] 1 [] 0 (fun φ11 => [(11, .string ⟨(l).toArray⟩)]) (fun φ11 => []) s (fun φ11 => by kernel_rfl) ?_
   intro φ11 w11 s
   refine call_rule (some 12) s (suffixS_c hn) (by kernel_rfl) ?_
   intro v12 I12 w12 le12 h12 s
   obtain rfl := h12
   refine oKD [] [] 3 [] 0 (fun φ13 => [(2, .bool (!(decide (l.drop (l.length - 1) = [46])))), (14, .bool (!(decide (l.drop (l.length - 1) = [46])))), (13, .bool (!(decide (l.drop (l.length - 1) = [46]))))]) (fun φ13 => []) s (fun φ13 => by kernel_rfl) (by kernel_rfl) ?_
   intro φ13 w13 s
   refine wp_ret ?_
   refine ret_rule (C := []) [] [] (.bool (!(decide (l.drop (l.length - 1) = [46])))) [] [] s trivial (by kernel_rfl) ?_
   exact ⟨_, _, _, rfl, s, (congrArg Value.bool (by unfold point; simp [hc5, hc9]))⟩
 ·
  rw [hc5]
  refine oKD [] [] 10 [] 0 (fun φ14 => [(2, .bool false), (14, .bool false), (13, undef), (12, undef), (11, undef), (10, .bool false), (9, .bool false), (8, undef), (7, undef), (6, undef)]) (fun φ14 => []) s (fun φ14 => by kernel_rfl) (by kernel_rfl) ?_
  intro φ14 w14 s
  refine wp_ret ?_
  refine ret_rule (C := []) [] [] (.bool false) [] [] s trivial (by kernel_rfl) ?_
  exact ⟨_, _, _, rfl, s, (congrArg Value.bool (by unfold point; simp [hc5]))⟩

set_option maxHeartbeats 2000000 in
theorem mail_hit_c {I : IM} {l : List UInt8} (hn : l.length ≤ 1000000) {o : Nat} (h : ixB 64 l = some o) : Fun Tryd.prog 102 #[.string ⟨(l).toArray⟩] I (fun v J => v = .bool (mail l)) := by
 refine enter_rule 25 [(0, .string ⟨(l).toArray⟩)] Tryd.func102 rfl (by kernel_rfl) ?_
 intro w s
 refine seqR ?_
 refine oKD [] [] 1 [] 0 (fun φ1 => [(2, .bool false)]) (fun φ1 => []) s (fun φ1 => by kernel_rfl) (by kernel_rfl) ?_
 intro φ1 w1 s
 refine seqR ?_
 refine oK [] [] 1 [] 0 (fun φ2 => [(7, .string ⟨(l).toArray⟩)]) (fun φ2 => []) s (fun φ2 => by kernel_rfl) ?_
 intro φ2 w2 s
 refine call_rule (some 8) s (cutS_hit hn h) (by kernel_rfl) ?_
 intro v3 I3 w3 le3 h3 s
 obtain rfl := h3
 refine oKD [] [] 7 [] 0 (fun φ4 => [(5, .bool true), (4, .string ⟨((l.drop (o + 1))).toArray⟩), (3, .string ⟨((l.take o)).toArray⟩), (11, .bool true), (10, .string ⟨((l.drop (o + 1))).toArray⟩), (9, .string ⟨((l.take o)).toArray⟩), (6, .tuple #[.string ⟨((l.take o)).toArray⟩, .string ⟨((l.drop (o + 1))).toArray⟩, .bool true])]) (fun φ4 => []) s (fun φ4 => by kernel_rfl) (by kernel_rfl) ?_
 intro φ4 w4 s
 refine seqR ?_
 refine oK [] [] 3 [] 0 (fun φ5 => [(14, .string ⟨((l.take o)).toArray⟩), (13, .bool true), (12, .bool true)]) (fun φ5 => []) s (fun φ5 => by kernel_rfl) ?_
 intro φ5 w5 s
 refine call_rule (some 15) s (isPart_c (l := (l.take o)) (by (try simp only [List.length_take, List.length_drop]); omega)) (by kernel_rfl) ?_
 intro v6 I6 w6 le6 h6 s
 obtain rfl := h6
 refine oK [] [] 2 [] 0 (fun φ7 => [(17, .bool (part (l.take o))), (16, .bool (part (l.take o)))]) (fun φ7 => []) s (fun φ7 => by kernel_rfl) ?_
 intro φ7 w7 s
 rcases Bool.eq_false_or_eq_true (part (l.take o)) with hc8 | hc8
 ·
  rw [hc8]
  refine oK [] [] 1 [] 0 (fun φ9 => [(18, .string ⟨((l.drop (o + 1))).toArray⟩)]) (fun φ9 => []) s (fun φ9 => by kernel_rfl) ?_
  intro φ9 w9 s
  refine call_rule (some 19) s (isPart_c (l := (l.drop (o + 1))) (by (try simp only [List.length_take, List.length_drop]); omega)) (by kernel_rfl) ?_
  intro v10 I10 w10 le10 h10 s
  obtain rfl := h10
  refine oK [] [] 2 [] 0 (fun φ11 => [(21, .bool (part (l.drop (o + 1)))), (20, .bool (part (l.drop (o + 1))))]) (fun φ11 => []) s (fun φ11 => by kernel_rfl) ?_
  intro φ11 w11 s
  rcases Bool.eq_false_or_eq_true (part (l.drop (o + 1))) with hc12 | hc12
  ·
   rw [hc12]
   refine oK [] [] 1 [] 0 (fun φ13 => [(22, .string ⟨((l.drop (o + 1))).toArray⟩)]) (fun φ13 => []) s (fun φ13 => by kernel_rfl) ?_
   intro φ13 w13 s
   refine call_rule (some 23) s (pointW_c (l := (l.drop (o + 1))) (by (try simp only [List.length_take, List.length_drop]); omega)) (by kernel_rfl) ?_
   intro v14 I14 w14 le14 h14 s
   obtain rfl := h14
   refine oKD [] [] 2 [] 0 (fun φ15 => [(2, .bool (point (l.drop (o + 1)))), (24, .bool (point (l.drop (o + 1))))]) (fun φ15 => []) s (fun φ15 => by kernel_rfl) (by kernel_rfl) ?_
   intro φ15 w15 s
   refine wp_ret ?_
   refine ret_rule (C := []) [] [] (.bool (point (l.drop (o + 1)))) [] [] s trivial (by kernel_rfl) ?_
   exact ⟨_, _, _, rfl, s, (congrArg Value.bool (by rw [mail_hit h]; simp [hc8, hc12]))⟩
  ·
   rw [hc12]
   refine oKD [] [] 4 [] 0 (fun φ16 => [(2, .bool false), (24, .bool false), (23, undef), (22, undef)]) (fun φ16 => []) s (fun φ16 => by kernel_rfl) (by kernel_rfl) ?_
   intro φ16 w16 s
   refine wp_ret ?_
   refine ret_rule (C := []) [] [] (.bool false) [] [] s trivial (by kernel_rfl) ?_
   exact ⟨_, _, _, rfl, s, (congrArg Value.bool (by rw [mail_hit h]; simp [hc8, hc12]))⟩
 ·
  rw [hc8]
  refine oKD [] [] 8 [] 0 (fun φ17 => [(2, .bool false), (24, .bool false), (23, undef), (22, undef), (21, .bool false), (20, .bool false), (19, undef), (18, undef)]) (fun φ17 => []) s (fun φ17 => by kernel_rfl) (by kernel_rfl) ?_
  intro φ17 w17 s
  refine wp_ret ?_
  refine ret_rule (C := []) [] [] (.bool false) [] [] s trivial (by kernel_rfl) ?_
  exact ⟨_, _, _, rfl, s, (congrArg Value.bool (by rw [mail_hit h]; simp [hc8]))⟩

set_option maxHeartbeats 2000000 in
theorem mail_miss_c {I : IM} {l : List UInt8} (hn : l.length ≤ 1000000) (h : ixB 64 l = none) : Fun Tryd.prog 102 #[.string ⟨(l).toArray⟩] I (fun v J => v = .bool (mail l)) := by
 refine enter_rule 25 [(0, .string ⟨(l).toArray⟩)] Tryd.func102 rfl (by kernel_rfl) ?_
 intro w s
 refine seqR ?_
 refine oKD [] [] 1 [] 0 (fun φ1 => [(2, .bool false)]) (fun φ1 => []) s (fun φ1 => by kernel_rfl) (by kernel_rfl) ?_
 intro φ1 w1 s
 refine seqR ?_
 refine oK [] [] 1 [] 0 (fun φ2 => [(7, .string ⟨(l).toArray⟩)]) (fun φ2 => []) s (fun φ2 => by kernel_rfl) ?_
 intro φ2 w2 s
 refine call_rule (some 8) s (cutS_miss hn h) (by kernel_rfl) ?_
 intro v3 I3 w3 le3 h3 s
 obtain rfl := h3
 refine oKD [] [] 7 [] 0 (fun φ4 => [(5, .bool false), (4, .string ⟨(([] : List UInt8)).toArray⟩), (3, .string ⟨(l).toArray⟩), (11, .bool false), (10, .string ⟨(([] : List UInt8)).toArray⟩), (9, .string ⟨(l).toArray⟩), (6, .tuple #[.string ⟨(l).toArray⟩, .string ⟨(([] : List UInt8)).toArray⟩, .bool false])]) (fun φ4 => []) s (fun φ4 => by kernel_rfl) (by kernel_rfl) ?_
 intro φ4 w4 s
 refine seqR ?_
 refine oKD [] [] 14 [] 0 (fun φ5 => [(2, .bool false), (24, .bool false), (23, undef), (22, undef), (21, .bool false), (20, .bool false), (19, undef), (18, undef), (17, .bool false), (16, .bool false), (15, undef), (14, undef), (13, .bool false), (12, .bool false)]) (fun φ5 => []) s (fun φ5 => by kernel_rfl) (by kernel_rfl) ?_
 intro φ5 w5 s
 refine wp_ret ?_
 refine ret_rule (C := []) [] [] (.bool false) [] [] s trivial (by kernel_rfl) ?_
 exact ⟨_, _, _, rfl, s, (congrArg Value.bool (mail_miss h).symm)⟩

theorem mail_c {I : IM} {l : List UInt8} (hn : l.length ≤ 1000000) : Fun Tryd.prog 102 #[.string ⟨(l).toArray⟩] I (fun v J => v = .bool (mail l)) := by
  cases q : ixB 64 l with
  | none => exact mail_miss_c hn q
  | some o => exact mail_hit_c hn q

end Go.Proofs.YtcpmjogeafhpnaaDoor.Tx
/- A mail's address: the document's. -/
set_option linter.all false
set_option maxRecDepth 100000
namespace Go.Proofs.YtcpmjogeafhpnaaDoor.Tx
open Go.RowKit Go.Sep
attribute [local irreducible] Go.wpList Go.Code.wp

theorem m_early {l : List UInt8} {a c i : Nat} (h : c = 1 → ixB 64 l = some a ∧ a < i) (ha : l.all okA = true) (hc : l.count 64 = c) (ho : c ≠ 1 ∨ a = 0 ∨ (l.drop (a + 1)).length = 0 ∨ ((l.drop (a + 1)).getD 0 0).toNat = 46 ∨ ((l.drop (a + 1)).getD ((l.drop (a + 1)).length - 1) 0).toNat = 46) : mail l = false := by
  by_cases h1 : c = 1
  · by_cases h0 : a = 0
    · subst h0; exact mail_zero (h h1).1
    · rw [mail_core (h h1).1 h0 ha (by omega)]
      by_cases hw : (l.drop (a + 1)).length = 0
      · rw [decide_eq_true (List.length_eq_zero_iff.1 hw)]; rfl
      · unfold point
        rw [first_46 (by omega), last_46 (by omega)]
        rcases ho with q | q | q | q | q
        · exact absurd h1 q
        · exact absurd q h0
        · exact absurd q hw
        · rw [decide_eq_true q]; simp
        · rw [decide_eq_true q]; simp
  · exact mail_cnt (by omega)
theorem m_late {l : List UInt8} {a c i : Nat} (h : c = 1 → ixB 64 l = some a ∧ a < i) (ha : l.all okA = true) (hc : l.count 64 = c) (h1 : c = 1) (h0 : a ≠ 0) (hw : (l.drop (a + 1)).length ≠ 0) (hf : ¬ ((l.drop (a + 1)).getD 0 0).toNat = 46) (hl : ¬ ((l.drop (a + 1)).getD ((l.drop (a + 1)).length - 1) 0).toNat = 46) : mail l = hasB 46 (l.drop (a + 1)) := by
  rw [mail_core (h h1).1 h0 ha (by omega), decide_eq_false (fun q => hw (by rw [q]; rfl))]
  unfold point
  rw [first_46 (by omega), last_46 (by omega), decide_eq_false hf, decide_eq_false hl]; simp

set_option maxHeartbeats 4000000 in
theorem refMail_c {I : IM} {l : List UInt8} (hn : l.length ≤ 1000000) : Fun Tryd.prog 65 #[.string ⟨(l).toArray⟩] I (fun v J => v = .bool (mail l)) := by
 refine enter_rule 67 [(0, .string ⟨(l).toArray⟩)] Tryd.func65 rfl (by kernel_rfl) ?_
 intro w s
 refine seqR ?_
 refine oKD [] [] 1 [] 0 (fun φ1 => [(2, .bool false)]) (fun φ1 => []) s (fun φ1 => by kernel_rfl) (by kernel_rfl) ?_
 intro φ1 w1 s
 refine seqR ?_
 refine oKD [] [] 2 [] 0 (fun φ2 => [(4, .int .i64 0), (3, .int .i64 0)]) (fun φ2 => []) s (fun φ2 => by kernel_rfl) (by kernel_rfl) ?_
 intro φ2 w2 s
 refine wp_seq ?_
 refine seqR ?_
 refine oKD [] [] 1 [] 0 (fun φ3 => [(5, .int .i64 0)]) (fun φ3 => []) s (fun φ3 => by kernel_rfl) (by kernel_rfl) ?_
 intro φ3 w3 s
 refine wp_block ?_
 have hle4 := IM.Le.refl I
 refine loop_rule (fun (x : Nat × Nat × Nat) => [(0, .string ⟨(l).toArray⟩), (2, .bool false), (5, .int .i64 x.1), (3, .int .i64 x.2.1), (4, .int .i64 x.2.2)]) (fun (x : Nat × Nat × Nat) => []) (fun m (x : Nat × Nat × Nat) J => IM.Le I J ∧ l.length ≤ x.1 + m ∧ l.all okA = (l.drop x.1).all okA ∧ (l.take x.1).count 64 = x.2.2 ∧ (x.2.2 = 1 → ixB 64 l = some x.2.1 ∧ x.2.1 < x.1) ∧ x.2.2 ≤ x.1 ∧ x.2.1 ≤ x.1 ∧ x.1 ≤ l.length) (l.length) (0, 0, 0) s (by kernel_rfl) List.Sublist.slnil ⟨IM.Le.refl _, by omega, rfl, rfl, fun z9 => absurd z9 (by decide), Nat.le_refl _, Nat.le_refl _, Nat.zero_le _⟩ ?_
 rintro m5 ⟨i5, a5, c5⟩ I5 w5 ev5 s ⟨le5, hi5_0, hi5_1, hi5_2, hi5_3, hi5_4, hi5_5, hi5_6⟩
 try dsimp only at s hi5_0 hi5_1 hi5_2 hi5_3 hi5_4 hi5_5 hi5_6 ⊢
 replace hle4 := leMono le5 hle4
 refine wp_seq ?_
 refine seqR ?_
 refine oK [] [] 4 [] 0 (fun φ6 => [(11, .bool (decide (((i5 : Nat) : Int) < ((l.length : Nat) : Int)))), (10, .int .i64 l.length), (9, .string ⟨(l).toArray⟩), (8, .int .i64 i5)]) (fun φ6 => []) s (fun φ6 => by kernel_rfl) ?_
 intro φ6 w6 s
 rw [nat_lss (a := i5) (b := l.length)]
 refine ops_done (by kernel_rfl) ?_
 rcases Bool.eq_false_or_eq_true (decide (i5 < l.length)) with hc7 | hc7
 ·
  rw [hc7]
  refine cond_true_rule (b := true) (by kernel_rfl) rfl ?_
  refine wp_skip ?_
  refine wp_seq ?_
  refine wp_block ?_
  refine wp_seq ?_
  refine seqR ?_
  refine oK [] [] 2 [] 0 (fun φ8 => [(15, .int .i64 i5), (14, .string ⟨(l).toArray⟩)]) (fun φ8 => []) s (fun φ8 => by kernel_rfl) ?_
  intro φ8 w8 s
  refine sem_rule (Instr.index 9 (.string ⟨(l).toArray⟩) (.int .i64 i5)) (some 16) (.int .u8 (((l.getD i5 0).toNat : Nat) : Int)) (by kernel_rfl) (run_idxK (s := l) (i := i5) (by have hz0 := hi5_4; have hz1 := hi5_5; have hz2 := hi5_6; have hL9 := List.length_drop (i := a5 + 1) (l := l);  have hq0 := dT9 hc7; (try simp only [List.length_drop, List.length_take, List.length_append, List.length_cons, List.length_nil]); omega)) ?_
  refine oK [] [] 2 [] 0 (fun φ9 => [(18, .bool (decide ((((l.getD i5 0).toNat : Nat) : Int) < ((33 : Nat) : Int)))), (17, .bool (decide ((((l.getD i5 0).toNat : Nat) : Int) < ((33 : Nat) : Int))))]) (fun φ9 => []) s (fun φ9 => by kernel_rfl) ?_
  intro φ9 w9 s
  rw [nat_lss (a := ((l.getD i5 0).toNat)) (b := 33)]
  rcases Bool.eq_false_or_eq_true (decide (((l.getD i5 0).toNat) < 33)) with hc10 | hc10
  ·
   rw [hc10]
   refine oKD [] [] 5 [] 0 (fun φ11 => [(23, .bool true), (22, undef), (21, undef), (20, undef), (19, undef)]) (fun φ11 => []) s (fun φ11 => by kernel_rfl) (by kernel_rfl) ?_
   intro φ11 w11 s
   refine cond_true_rule (b := true) (by kernel_rfl) rfl ?_
   refine seqR ?_
   refine oKD [] [] 1 [] 0 (fun φ12 => [(2, .bool false)]) (fun φ12 => []) s (fun φ12 => by kernel_rfl) (by kernel_rfl) ?_
   intro φ12 w12 s
   refine wp_ret ?_
   refine ret_rule (C := []) [] [] (.bool false) [] [] s trivial (by kernel_rfl) ?_
   exact ⟨_, _, _, rfl, s, (congrArg Value.bool (mail_badA (pa_no (dT9 hc7) (okA_no (by have hq0 := dT9 hc7; have hq1 := dT9 hc10; omega)) hi5_1)).symm)⟩
  ·
   rw [hc10]
   refine oK [] [] 2 [] 0 (fun φ13 => [(20, .int .i64 i5), (19, .string ⟨(l).toArray⟩)]) (fun φ13 => []) s (fun φ13 => by kernel_rfl) ?_
   intro φ13 w13 s
   refine sem_rule (Instr.index 9 (.string ⟨(l).toArray⟩) (.int .i64 i5)) (some 21) (.int .u8 (((l.getD i5 0).toNat : Nat) : Int)) (by kernel_rfl) (run_idxK (s := l) (i := i5) (by have hz0 := hi5_4; have hz1 := hi5_5; have hz2 := hi5_6; have hL9 := List.length_drop (i := a5 + 1) (l := l);  have hq0 := dT9 hc7; have hq1 := dF9 hc10; (try simp only [List.length_drop, List.length_take, List.length_append, List.length_cons, List.length_nil]); omega)) ?_
   refine oK [] [] 2 [] 0 (fun φ14 => [(23, .bool (decide ((((l.getD i5 0).toNat : Nat) : Int) > ((126 : Nat) : Int)))), (22, .bool (decide ((((l.getD i5 0).toNat : Nat) : Int) > ((126 : Nat) : Int))))]) (fun φ14 => []) s (fun φ14 => by kernel_rfl) ?_
   intro φ14 w14 s
   rw [nat_gtr (a := ((l.getD i5 0).toNat)) (b := 126)]
   refine ops_done (by kernel_rfl) ?_
   rcases Bool.eq_false_or_eq_true (decide (126 < ((l.getD i5 0).toNat))) with hc15 | hc15
   ·
    rw [hc15]
    refine cond_true_rule (b := true) (by kernel_rfl) rfl ?_
    refine seqR ?_
    refine oKD [] [] 1 [] 0 (fun φ16 => [(2, .bool false)]) (fun φ16 => []) s (fun φ16 => by kernel_rfl) (by kernel_rfl) ?_
    intro φ16 w16 s
    refine wp_ret ?_
    refine ret_rule (C := []) [] [] (.bool false) [] [] s trivial (by kernel_rfl) ?_
    exact ⟨_, _, _, rfl, s, (congrArg Value.bool (mail_badA (pa_no (dT9 hc7) (okA_no (by have hq0 := dT9 hc7; have hq1 := dF9 hc10; have hq2 := dT9 hc15; omega)) hi5_1)).symm)⟩
   ·
    rw [hc15]
    refine cond_false_rule (b := false) (by kernel_rfl) rfl ?_
    refine wp_skip ?_
    refine seqR ?_
    refine oK [] [] 2 [] 0 (fun φ17 => [(25, .int .i64 i5), (24, .string ⟨(l).toArray⟩)]) (fun φ17 => []) s (fun φ17 => by kernel_rfl) ?_
    intro φ17 w17 s
    refine sem_rule (Instr.index 9 (.string ⟨(l).toArray⟩) (.int .i64 i5)) (some 26) (.int .u8 (((l.getD i5 0).toNat : Nat) : Int)) (by kernel_rfl) (run_idxK (s := l) (i := i5) (by have hz0 := hi5_4; have hz1 := hi5_5; have hz2 := hi5_6; have hL9 := List.length_drop (i := a5 + 1) (l := l);  have hq0 := dT9 hc7; have hq1 := dF9 hc10; have hq2 := dF9 hc15; (try simp only [List.length_drop, List.length_take, List.length_append, List.length_cons, List.length_nil]); omega)) ?_
    refine oK [] [] 1 [] 0 (fun φ18 => [(27, .bool ((((l.getD i5 0).toNat : Nat) : Int) == ((64 : Nat) : Int)))]) (fun φ18 => []) s (fun φ18 => by kernel_rfl) ?_
    intro φ18 w18 s
    rw [nat_eql (a := ((l.getD i5 0).toNat)) (b := 64)]
    refine ops_done (by kernel_rfl) ?_
    rcases Bool.eq_false_or_eq_true (decide (((l.getD i5 0).toNat) = 64)) with hc19 | hc19
    ·
     rw [hc19]
     refine cond_true_rule (b := true) (by kernel_rfl) rfl ?_
     refine seqR ?_
     refine oKD [] [] 2 [] 0 (fun φ20 => [(3, .int .i64 i5), (28, .int .i64 i5)]) (fun φ20 => []) s (fun φ20 => by kernel_rfl) (by kernel_rfl) ?_
     intro φ20 w20 s
     refine region_rule ?_
     refine oK [] [] 3 [] 0 (fun φ21 => [(4, .int .i64 (IntKind.wrap .i64 (((c5 : Nat) : Int) + ((1 : Nat) : Int)))), (30, .int .i64 (IntKind.wrap .i64 (((c5 : Nat) : Int) + ((1 : Nat) : Int)))), (29, .int .i64 c5)]) (fun φ21 => []) s (fun φ21 => by kernel_rfl) ?_
     intro φ21 w21 s
     rw [nat_addI (a := c5) (b := 1) (by have hz0 := hi5_4; have hz1 := hi5_5; have hz2 := hi5_6; have hL9 := List.length_drop (i := a5 + 1) (l := l);  have hq0 := dT9 hc7; have hq1 := dF9 hc10; have hq2 := dF9 hc15; have hq3 := dT9 hc19; omega)]
     refine ops_done (by kernel_rfl) ?_
     refine region_rule ?_
     refine oK [] [] 3 [] 0 (fun φ22 => [(5, .int .i64 (IntKind.wrap .i64 (((i5 : Nat) : Int) + ((1 : Nat) : Int)))), (13, .int .i64 (IntKind.wrap .i64 (((i5 : Nat) : Int) + ((1 : Nat) : Int)))), (12, .int .i64 i5)]) (fun φ22 => []) s (fun φ22 => by kernel_rfl) ?_
     intro φ22 w22 s
     rw [nat_addI (a := i5) (b := 1) (by have hz0 := hi5_4; have hz1 := hi5_5; have hz2 := hi5_6; have hL9 := List.length_drop (i := a5 + 1) (l := l);  have hq0 := dT9 hc7; have hq1 := dF9 hc10; have hq2 := dF9 hc15; have hq3 := dT9 hc19; omega)]
     refine ops_done (by kernel_rfl) ?_
     have hq9 := dT9 hc7
     have hb9 := byte_lt (l.getD i5 0)
     exact ⟨⟨m5 - 1, (i5 + 1, i5, c5 + 1), _, _, _, by omega, rfl, s, List.Sublist.slnil, by kernel_rfl, hle4, by show l.length ≤ i5 + 1 + (m5 - 1); omega, pa_go hq9 (okA_yes (by have hq0 := dT9 hc7; have hq1 := dF9 hc10; have hq2 := dF9 hc15; have hq3 := dT9 hc19; omega)) hi5_1, cnt_yes hq9 (by have hq0 := dT9 hc7; have hq1 := dF9 hc10; have hq2 := dF9 hc15; have hq3 := dT9 hc19; omega) hi5_2, fun z9 => ⟨ix_first hq9 (by have hq0 := dT9 hc7; have hq1 := dF9 hc10; have hq2 := dF9 hc15; have hq3 := dT9 hc19; omega) hi5_2 z9, by show i5 < i5 + 1; omega⟩, by have h8 := hi5_4; show c5 + 1 ≤ i5 + 1; omega, by have h8 := hi5_5; show i5 ≤ i5 + 1; omega, by show i5 + 1 ≤ l.length; omega⟩⟩
    ·
     rw [hc19]
     refine cond_false_rule (b := false) (by kernel_rfl) rfl ?_
     refine wp_skip ?_
     refine region_rule ?_
     refine oK [] [] 3 [] 0 (fun φ23 => [(5, .int .i64 (IntKind.wrap .i64 (((i5 : Nat) : Int) + ((1 : Nat) : Int)))), (13, .int .i64 (IntKind.wrap .i64 (((i5 : Nat) : Int) + ((1 : Nat) : Int)))), (12, .int .i64 i5)]) (fun φ23 => []) s (fun φ23 => by kernel_rfl) ?_
     intro φ23 w23 s
     rw [nat_addI (a := i5) (b := 1) (by have hz0 := hi5_4; have hz1 := hi5_5; have hz2 := hi5_6; have hL9 := List.length_drop (i := a5 + 1) (l := l);  have hq0 := dT9 hc7; have hq1 := dF9 hc10; have hq2 := dF9 hc15; have hq3 := dF9 hc19; omega)]
     refine ops_done (by kernel_rfl) ?_
     have hq9 := dT9 hc7
     have hb9 := byte_lt (l.getD i5 0)
     exact ⟨⟨m5 - 1, (i5 + 1, a5, c5), _, _, _, by omega, rfl, s, List.Sublist.slnil, by kernel_rfl, hle4, by show l.length ≤ i5 + 1 + (m5 - 1); omega, pa_go hq9 (okA_yes (by have hq0 := dT9 hc7; have hq1 := dF9 hc10; have hq2 := dF9 hc15; have hq3 := dF9 hc19; omega)) hi5_1, cnt_no hq9 (by have hq0 := dT9 hc7; have hq1 := dF9 hc10; have hq2 := dF9 hc15; have hq3 := dF9 hc19; omega) hi5_2, fun z9 => ⟨(hi5_3 z9).1, by have h8 := (hi5_3 z9).2; show a5 < i5 + 1; omega⟩, by have h8 := hi5_4; show c5 ≤ i5 + 1; omega, by have h8 := hi5_5; show a5 ≤ i5 + 1; omega, by show i5 + 1 ≤ l.length; omega⟩⟩
 ·
  rw [hc7]
  refine cond_false_rule (b := false) (by kernel_rfl) rfl ?_
  refine wp_exit ?_
  refine wp_seq ?_
  refine seqR ?_
  refine oK [] [] 3 [] 0 (fun φ24 => [(33, .bool (((c5 : Nat) : Int) != ((1 : Nat) : Int))), (32, .bool (((c5 : Nat) : Int) != ((1 : Nat) : Int))), (31, .int .i64 c5)]) (fun φ24 => []) s (fun φ24 => by kernel_rfl) ?_
  intro φ24 w24 s
  rw [nat_neq (a := c5) (b := 1)]
  rcases Bool.eq_false_or_eq_true (decide (c5 ≠ 1)) with hc25 | hc25
  ·
   rw [hc25]
   refine oKD [] [] 3 [] 0 (fun φ26 => [(36, .bool true), (35, undef), (34, undef)]) (fun φ26 => []) s (fun φ26 => by kernel_rfl) (by kernel_rfl) ?_
   intro φ26 w26 s
   refine cond_true_rule (b := true) (by kernel_rfl) rfl ?_
   refine seqR ?_
   refine oKD [] [] 1 [] 0 (fun φ27 => [(2, .bool false)]) (fun φ27 => []) s (fun φ27 => by kernel_rfl) (by kernel_rfl) ?_
   intro φ27 w27 s
   refine wp_ret ?_
   refine ret_rule (C := []) [] [] (.bool false) [] [] s trivial (by kernel_rfl) ?_
   exact ⟨_, _, _, rfl, s, (congrArg Value.bool (by have hz1 := hi5_5; have hz2 := hi5_6; have hL9 := List.length_drop (i := a5 + 1) (l := l); have hn9 := dF9 hc7; have ha9 := pa_all hn9 hi5_1; have hc9 : l.count 64 = c5 := (by have h9 := hi5_2; rwa [List.take_of_length_le (by omega)] at h9); have hq0 := dF9 hc7; have hq1 := dT9 hc25; exact (m_early hi5_3 ha9 hc9 (by omega)).symm))⟩
  ·
   rw [hc25]
   refine oK [] [] 3 [] 0 (fun φ28 => [(36, .bool (((a5 : Nat) : Int) == ((0 : Nat) : Int))), (35, .bool (((a5 : Nat) : Int) == ((0 : Nat) : Int))), (34, .int .i64 a5)]) (fun φ28 => []) s (fun φ28 => by kernel_rfl) ?_
   intro φ28 w28 s
   rw [nat_eql (a := a5) (b := 0)]
   refine ops_done (by kernel_rfl) ?_
   rcases Bool.eq_false_or_eq_true (decide (a5 = 0)) with hc29 | hc29
   ·
    rw [hc29]
    refine cond_true_rule (b := true) (by kernel_rfl) rfl ?_
    refine seqR ?_
    refine oKD [] [] 1 [] 0 (fun φ30 => [(2, .bool false)]) (fun φ30 => []) s (fun φ30 => by kernel_rfl) (by kernel_rfl) ?_
    intro φ30 w30 s
    refine wp_ret ?_
    refine ret_rule (C := []) [] [] (.bool false) [] [] s trivial (by kernel_rfl) ?_
    exact ⟨_, _, _, rfl, s, (congrArg Value.bool (by have hz1 := hi5_5; have hz2 := hi5_6; have hL9 := List.length_drop (i := a5 + 1) (l := l); have hn9 := dF9 hc7; have ha9 := pa_all hn9 hi5_1; have hc9 : l.count 64 = c5 := (by have h9 := hi5_2; rwa [List.take_of_length_le (by omega)] at h9); have hq0 := dF9 hc7; have hq1 := dF9 hc25; have hq2 := dT9 hc29; exact (m_early hi5_3 ha9 hc9 (by omega)).symm))⟩
   ·
    rw [hc29]
    refine cond_false_rule (b := false) (by kernel_rfl) rfl ?_
    refine wp_skip ?_
    refine seqR ?_
    refine oK [] [] 3 [] 0 (fun φ31 => [(39, .int .i64 (IntKind.wrap .i64 (((a5 : Nat) : Int) + ((1 : Nat) : Int)))), (38, .int .i64 a5), (37, .string ⟨(l).toArray⟩)]) (fun φ31 => []) s (fun φ31 => by kernel_rfl) ?_
    intro φ31 w31 s
    rw [nat_addI (a := a5) (b := 1) (by have hz0 := hi5_4; have hz1 := hi5_5; have hz2 := hi5_6; have hL9 := List.length_drop (i := a5 + 1) (l := l);  have hq0 := dF9 hc7; have hq1 := dF9 hc25; have hq2 := dF9 hc29; omega)]
    refine sem_rule (Instr.sliceAt 9 (.string ⟨(l).toArray⟩) (some (.int .i64 ((a5 + 1 : Nat) : Int))) none none) (some 40) (.string ⟨((l.drop (a5 + 1))).toArray⟩) (by kernel_rfl) (run_dropStr (s := l) (lo := a5 + 1) under9 (by have hz0 := hi5_4; have hz1 := hi5_5; have hz2 := hi5_6; have hL9 := List.length_drop (i := a5 + 1) (l := l);  have hq0 := dF9 hc7; have hq1 := dF9 hc25; have hq2 := dF9 hc29; (try simp only [List.length_drop, List.length_take, List.length_append, List.length_cons, List.length_nil]); omega)) ?_
    refine oKD [] [] 1 [] 0 (fun φ32 => [(6, .string ⟨((l.drop (a5 + 1))).toArray⟩)]) (fun φ32 => []) s (fun φ32 => by kernel_rfl) (by kernel_rfl) ?_
    intro φ32 w32 s
    refine wp_seq ?_
    refine seqR ?_
    refine oK [] [] 4 [] 0 (fun φ33 => [(44, .bool ((((l.drop (a5 + 1)).length : Nat) : Int) == ((0 : Nat) : Int))), (43, .bool ((((l.drop (a5 + 1)).length : Nat) : Int) == ((0 : Nat) : Int))), (42, .int .i64 (((l.drop (a5 + 1)).length : Nat) : Int)), (41, .string ⟨((l.drop (a5 + 1))).toArray⟩)]) (fun φ33 => []) s (fun φ33 => by kernel_rfl) ?_
    intro φ33 w33 s
    rw [nat_eql (a := ((l.drop (a5 + 1)).length)) (b := 0)]
    rcases Bool.eq_false_or_eq_true (decide (((l.drop (a5 + 1)).length) = 0)) with hc34 | hc34
    ·
     rw [hc34]
     refine oKD [] [] 12 [] 0 (fun φ35 => [(56, .bool true), (55, undef), (54, undef), (53, undef), (52, undef), (51, undef), (50, undef), (49, .bool true), (48, .bool true), (47, undef), (46, undef), (45, undef)]) (fun φ35 => []) s (fun φ35 => by kernel_rfl) (by kernel_rfl) ?_
     intro φ35 w35 s
     refine cond_true_rule (b := true) (by kernel_rfl) rfl ?_
     refine seqR ?_
     refine oKD [] [] 1 [] 0 (fun φ36 => [(2, .bool false)]) (fun φ36 => []) s (fun φ36 => by kernel_rfl) (by kernel_rfl) ?_
     intro φ36 w36 s
     refine wp_ret ?_
     refine ret_rule (C := []) [] [] (.bool false) [] [] s trivial (by kernel_rfl) ?_
     exact ⟨_, _, _, rfl, s, (congrArg Value.bool (by have hz1 := hi5_5; have hz2 := hi5_6; have hL9 := List.length_drop (i := a5 + 1) (l := l); have hn9 := dF9 hc7; have ha9 := pa_all hn9 hi5_1; have hc9 : l.count 64 = c5 := (by have h9 := hi5_2; rwa [List.take_of_length_le (by omega)] at h9); have hq0 := dF9 hc7; have hq1 := dF9 hc25; have hq2 := dF9 hc29; have hq3 := dT9 hc34; exact (m_early hi5_3 ha9 hc9 (by omega)).symm))⟩
    ·
     rw [hc34]
     refine oK [] [] 1 [] 0 (fun φ37 => [(45, .string ⟨((l.drop (a5 + 1))).toArray⟩)]) (fun φ37 => []) s (fun φ37 => by kernel_rfl) ?_
     intro φ37 w37 s
     refine sem_rule (Instr.index 9 (.string ⟨((l.drop (a5 + 1))).toArray⟩) (.int .i64 ((0 : Nat) : Int))) (some 46) (.int .u8 ((((l.drop (a5 + 1)).getD 0 0).toNat : Nat) : Int)) (by kernel_rfl) (run_idxK (s := (l.drop (a5 + 1))) (i := 0) (by have hz0 := hi5_4; have hz1 := hi5_5; have hz2 := hi5_6; have hL9 := List.length_drop (i := a5 + 1) (l := l);  have hq0 := dF9 hc7; have hq1 := dF9 hc25; have hq2 := dF9 hc29; have hq3 := dF9 hc34; (try simp only [List.length_drop, List.length_take, List.length_append, List.length_cons, List.length_nil]); omega)) ?_
     refine oK [] [] 3 [] 0 (fun φ38 => [(49, .bool (((((l.drop (a5 + 1)).getD 0 0).toNat : Nat) : Int) == ((46 : Nat) : Int))), (48, .bool (((((l.drop (a5 + 1)).getD 0 0).toNat : Nat) : Int) == ((46 : Nat) : Int))), (47, .bool (((((l.drop (a5 + 1)).getD 0 0).toNat : Nat) : Int) == ((46 : Nat) : Int)))]) (fun φ38 => []) s (fun φ38 => by kernel_rfl) ?_
     intro φ38 w38 s
     rw [nat_eql (a := (((l.drop (a5 + 1)).getD 0 0).toNat)) (b := 46)]
     rcases Bool.eq_false_or_eq_true (decide ((((l.drop (a5 + 1)).getD 0 0).toNat) = 46)) with hc39 | hc39
     ·
      rw [hc39]
      refine oKD [] [] 7 [] 0 (fun φ40 => [(56, .bool true), (55, undef), (54, undef), (53, undef), (52, undef), (51, undef), (50, undef)]) (fun φ40 => []) s (fun φ40 => by kernel_rfl) (by kernel_rfl) ?_
      intro φ40 w40 s
      refine cond_true_rule (b := true) (by kernel_rfl) rfl ?_
      refine seqR ?_
      refine oKD [] [] 1 [] 0 (fun φ41 => [(2, .bool false)]) (fun φ41 => []) s (fun φ41 => by kernel_rfl) (by kernel_rfl) ?_
      intro φ41 w41 s
      refine wp_ret ?_
      refine ret_rule (C := []) [] [] (.bool false) [] [] s trivial (by kernel_rfl) ?_
      exact ⟨_, _, _, rfl, s, (congrArg Value.bool (by have hz1 := hi5_5; have hz2 := hi5_6; have hL9 := List.length_drop (i := a5 + 1) (l := l); have hn9 := dF9 hc7; have ha9 := pa_all hn9 hi5_1; have hc9 : l.count 64 = c5 := (by have h9 := hi5_2; rwa [List.take_of_length_le (by omega)] at h9); have hq0 := dF9 hc7; have hq1 := dF9 hc25; have hq2 := dF9 hc29; have hq3 := dF9 hc34; have hq4 := dT9 hc39; exact (m_early hi5_3 ha9 hc9 (by omega)).symm))⟩
     ·
      rw [hc39]
      refine oK [] [] 4 [] 0 (fun φ42 => [(53, .int .i64 (IntKind.wrap .i64 ((((l.drop (a5 + 1)).length : Nat) : Int) - ((1 : Nat) : Int)))), (52, .int .i64 (((l.drop (a5 + 1)).length : Nat) : Int)), (51, .string ⟨((l.drop (a5 + 1))).toArray⟩), (50, .string ⟨((l.drop (a5 + 1))).toArray⟩)]) (fun φ42 => []) s (fun φ42 => by kernel_rfl) ?_
      intro φ42 w42 s
      rw [nat_subI (a := ((l.drop (a5 + 1)).length)) (b := 1) (by have hz0 := hi5_4; have hz1 := hi5_5; have hz2 := hi5_6; have hL9 := List.length_drop (i := a5 + 1) (l := l);  have hq0 := dF9 hc7; have hq1 := dF9 hc25; have hq2 := dF9 hc29; have hq3 := dF9 hc34; have hq4 := dF9 hc39; (try simp only [List.length_drop, List.length_take, List.length_append, List.length_cons, List.length_nil]); omega) (by have hz0 := hi5_4; have hz1 := hi5_5; have hz2 := hi5_6; have hL9 := List.length_drop (i := a5 + 1) (l := l);  have hq0 := dF9 hc7; have hq1 := dF9 hc25; have hq2 := dF9 hc29; have hq3 := dF9 hc34; have hq4 := dF9 hc39; (try simp only [List.length_drop, List.length_take, List.length_append, List.length_cons, List.length_nil]); omega)]
      refine sem_rule (Instr.index 9 (.string ⟨((l.drop (a5 + 1))).toArray⟩) (.int .i64 ((((l.drop (a5 + 1)).length) - 1 : Nat) : Int))) (some 54) (.int .u8 ((((l.drop (a5 + 1)).getD (((l.drop (a5 + 1)).length) - 1) 0).toNat : Nat) : Int)) (by kernel_rfl) (run_idxK (s := (l.drop (a5 + 1))) (i := ((l.drop (a5 + 1)).length) - 1) (by have hz0 := hi5_4; have hz1 := hi5_5; have hz2 := hi5_6; have hL9 := List.length_drop (i := a5 + 1) (l := l);  have hq0 := dF9 hc7; have hq1 := dF9 hc25; have hq2 := dF9 hc29; have hq3 := dF9 hc34; have hq4 := dF9 hc39; (try simp only [List.length_drop, List.length_take, List.length_append, List.length_cons, List.length_nil]); omega)) ?_
      refine oK [] [] 2 [] 0 (fun φ43 => [(56, .bool (((((l.drop (a5 + 1)).getD (((l.drop (a5 + 1)).length) - 1) 0).toNat : Nat) : Int) == ((46 : Nat) : Int))), (55, .bool (((((l.drop (a5 + 1)).getD (((l.drop (a5 + 1)).length) - 1) 0).toNat : Nat) : Int) == ((46 : Nat) : Int)))]) (fun φ43 => []) s (fun φ43 => by kernel_rfl) ?_
      intro φ43 w43 s
      rw [nat_eql (a := (((l.drop (a5 + 1)).getD (((l.drop (a5 + 1)).length) - 1) 0).toNat)) (b := 46)]
      refine ops_done (by kernel_rfl) ?_
      rcases Bool.eq_false_or_eq_true (decide ((((l.drop (a5 + 1)).getD (((l.drop (a5 + 1)).length) - 1) 0).toNat) = 46)) with hc44 | hc44
      ·
       rw [hc44]
       refine cond_true_rule (b := true) (by kernel_rfl) rfl ?_
       refine seqR ?_
       refine oKD [] [] 1 [] 0 (fun φ45 => [(2, .bool false)]) (fun φ45 => []) s (fun φ45 => by kernel_rfl) (by kernel_rfl) ?_
       intro φ45 w45 s
       refine wp_ret ?_
       refine ret_rule (C := []) [] [] (.bool false) [] [] s trivial (by kernel_rfl) ?_
       exact ⟨_, _, _, rfl, s, (congrArg Value.bool (by have hz1 := hi5_5; have hz2 := hi5_6; have hL9 := List.length_drop (i := a5 + 1) (l := l); have hn9 := dF9 hc7; have ha9 := pa_all hn9 hi5_1; have hc9 : l.count 64 = c5 := (by have h9 := hi5_2; rwa [List.take_of_length_le (by omega)] at h9); have hq0 := dF9 hc7; have hq1 := dF9 hc25; have hq2 := dF9 hc29; have hq3 := dF9 hc34; have hq4 := dF9 hc39; have hq5 := dT9 hc44; exact (m_early hi5_3 ha9 hc9 (by omega)).symm))⟩
      ·
       rw [hc44]
       refine cond_false_rule (b := false) (by kernel_rfl) rfl ?_
       refine wp_skip ?_
       refine wp_seq ?_
       refine seqR ?_
       refine oKD [] [] 1 [] 0 (fun φ46 => [(7, .int .i64 0)]) (fun φ46 => []) s (fun φ46 => by kernel_rfl) (by kernel_rfl) ?_
       intro φ46 w46 s
       refine wp_block ?_
       have hle47 := IM.Le.refl I5
       refine loop_rule (fun (x : Nat) => [(0, .string ⟨(l).toArray⟩), (2, .bool false), (6, .string ⟨((l.drop (a5 + 1))).toArray⟩), (7, .int .i64 x)]) (fun (x : Nat) => []) (fun m (x : Nat) J => IM.Le I5 J ∧ (l.drop (a5 + 1)).length ≤ x + m ∧ (46 : UInt8) ∉ (l.drop (a5 + 1)).take x) ((l.drop (a5 + 1)).length) 0 s (by kernel_rfl) List.Sublist.slnil ⟨IM.Le.refl _, by omega, nil_take _⟩ ?_
       rintro m48 j48 I48 w48 ev48 s ⟨le48, hi48_0, hi48_1⟩
       try dsimp only at s hi48_0 hi48_1 ⊢
       replace hle47 := leMono le48 hle47
       refine wp_seq ?_
       refine seqR ?_
       refine oK [] [] 4 [] 0 (fun φ49 => [(60, .bool (decide (((j48 : Nat) : Int) < (((l.drop (a5 + 1)).length : Nat) : Int)))), (59, .int .i64 (((l.drop (a5 + 1)).length : Nat) : Int)), (58, .string ⟨((l.drop (a5 + 1))).toArray⟩), (57, .int .i64 j48)]) (fun φ49 => []) s (fun φ49 => by kernel_rfl) ?_
       intro φ49 w49 s
       rw [nat_lss (a := j48) (b := ((l.drop (a5 + 1)).length))]
       refine ops_done (by kernel_rfl) ?_
       rcases Bool.eq_false_or_eq_true (decide (j48 < ((l.drop (a5 + 1)).length))) with hc50 | hc50
       ·
        rw [hc50]
        refine cond_true_rule (b := true) (by kernel_rfl) rfl ?_
        refine wp_skip ?_
        refine wp_seq ?_
        refine wp_block ?_
        refine seqR ?_
        refine oK [] [] 2 [] 0 (fun φ51 => [(64, .int .i64 j48), (63, .string ⟨((l.drop (a5 + 1))).toArray⟩)]) (fun φ51 => []) s (fun φ51 => by kernel_rfl) ?_
        intro φ51 w51 s
        refine sem_rule (Instr.index 9 (.string ⟨((l.drop (a5 + 1))).toArray⟩) (.int .i64 j48)) (some 65) (.int .u8 ((((l.drop (a5 + 1)).getD j48 0).toNat : Nat) : Int)) (by kernel_rfl) (run_idxK (s := (l.drop (a5 + 1))) (i := j48) (by have hz0 := hi5_4; have hz1 := hi5_5; have hz2 := hi5_6; have hL9 := List.length_drop (i := a5 + 1) (l := l);  have hq0 := dF9 hc7; have hq1 := dF9 hc25; have hq2 := dF9 hc29; have hq3 := dF9 hc34; have hq4 := dF9 hc39; have hq5 := dF9 hc44; have hq6 := dT9 hc50; (try simp only [List.length_drop, List.length_take, List.length_append, List.length_cons, List.length_nil]); omega)) ?_
        refine oK [] [] 1 [] 0 (fun φ52 => [(66, .bool (((((l.drop (a5 + 1)).getD j48 0).toNat : Nat) : Int) == ((46 : Nat) : Int)))]) (fun φ52 => []) s (fun φ52 => by kernel_rfl) ?_
        intro φ52 w52 s
        rw [nat_eql (a := (((l.drop (a5 + 1)).getD j48 0).toNat)) (b := 46)]
        refine ops_done (by kernel_rfl) ?_
        rcases Bool.eq_false_or_eq_true (decide ((((l.drop (a5 + 1)).getD j48 0).toNat) = 46)) with hc53 | hc53
        ·
         rw [hc53]
         refine cond_true_rule (b := true) (by kernel_rfl) rfl ?_
         refine seqR ?_
         refine oKD [] [] 1 [] 0 (fun φ54 => [(2, .bool true)]) (fun φ54 => []) s (fun φ54 => by kernel_rfl) (by kernel_rfl) ?_
         intro φ54 w54 s
         refine wp_ret ?_
         refine ret_rule (C := []) [] [] (.bool true) [] [] s trivial (by kernel_rfl) ?_
         exact ⟨_, _, _, rfl, s, (congrArg Value.bool (by have hz1 := hi5_5; have hz2 := hi5_6; have hL9 := List.length_drop (i := a5 + 1) (l := l); have hn9 := dF9 hc7; have ha9 := pa_all hn9 hi5_1; have hc9 : l.count 64 = c5 := (by have h9 := hi5_2; rwa [List.take_of_length_le (by omega)] at h9); have hq0 := dF9 hc7; have hq1 := dF9 hc25; have hq2 := dF9 hc29; have hq3 := dF9 hc34; have hq4 := dF9 hc39; have hq5 := dF9 hc44; have hq6 := dT9 hc50; have hq7 := dT9 hc53; exact ((m_late hi5_3 ha9 hc9 (by omega) (by omega) (by omega) (by omega) (by omega)).trans (has_at (by omega) (by omega))).symm))⟩
        ·
         rw [hc53]
         refine cond_false_rule (b := false) (by kernel_rfl) rfl ?_
         refine wp_skip ?_
         refine region_rule ?_
         refine oK [] [] 3 [] 0 (fun φ55 => [(7, .int .i64 (IntKind.wrap .i64 (((j48 : Nat) : Int) + ((1 : Nat) : Int)))), (62, .int .i64 (IntKind.wrap .i64 (((j48 : Nat) : Int) + ((1 : Nat) : Int)))), (61, .int .i64 j48)]) (fun φ55 => []) s (fun φ55 => by kernel_rfl) ?_
         intro φ55 w55 s
         rw [nat_addI (a := j48) (b := 1) (by have hz0 := hi5_4; have hz1 := hi5_5; have hz2 := hi5_6; have hL9 := List.length_drop (i := a5 + 1) (l := l);  have hq0 := dF9 hc7; have hq1 := dF9 hc25; have hq2 := dF9 hc29; have hq3 := dF9 hc34; have hq4 := dF9 hc39; have hq5 := dF9 hc44; have hq6 := dT9 hc50; have hq7 := dF9 hc53; omega)]
         refine ops_done (by kernel_rfl) ?_
         have hq9 : j48 < (l.drop (a5 + 1)).length := dT9 hc50
         exact ⟨⟨m48 - 1, j48 + 1, _, _, _, by have hq0 := dF9 hc7; have hq1 := dF9 hc25; have hq2 := dF9 hc29; have hq3 := dF9 hc34; have hq4 := dF9 hc39; have hq5 := dF9 hc44; have hq6 := dT9 hc50; have hq7 := dF9 hc53; have hL9 := List.length_drop (i := a5 + 1) (l := l); omega, rfl, s, List.Sublist.slnil, by kernel_rfl, hle47, by have hq0 := dF9 hc7; have hq1 := dF9 hc25; have hq2 := dF9 hc29; have hq3 := dF9 hc34; have hq4 := dF9 hc39; have hq5 := dF9 hc44; have hq6 := dT9 hc50; have hq7 := dF9 hc53; show (l.drop (a5 + 1)).length ≤ j48 + 1 + (m48 - 1); omega, not_next hq9 (by have hq0 := dF9 hc7; have hq1 := dF9 hc25; have hq2 := dF9 hc29; have hq3 := dF9 hc34; have hq4 := dF9 hc39; have hq5 := dF9 hc44; have hq6 := dT9 hc50; have hq7 := dF9 hc53; omega) hi48_1⟩⟩
       ·
        rw [hc50]
        refine cond_false_rule (b := false) (by kernel_rfl) rfl ?_
        refine wp_exit ?_
        refine seqR ?_
        refine oKD [] [] 1 [] 0 (fun φ56 => [(2, .bool false)]) (fun φ56 => []) s (fun φ56 => by kernel_rfl) (by kernel_rfl) ?_
        intro φ56 w56 s
        refine wp_ret ?_
        refine ret_rule (C := []) [] [] (.bool false) [] [] s trivial (by kernel_rfl) ?_
        exact ⟨_, _, _, rfl, s, (congrArg Value.bool (by have hz1 := hi5_5; have hz2 := hi5_6; have hL9 := List.length_drop (i := a5 + 1) (l := l); have hn9 := dF9 hc7; have ha9 := pa_all hn9 hi5_1; have hc9 : l.count 64 = c5 := (by have h9 := hi5_2; rwa [List.take_of_length_le (by omega)] at h9); have hq0 := dF9 hc7; have hq1 := dF9 hc25; have hq2 := dF9 hc29; have hq3 := dF9 hc34; have hq4 := dF9 hc39; have hq5 := dF9 hc44; have hq6 := dF9 hc50; exact ((m_late hi5_3 ha9 hc9 (by omega) (by omega) (by omega) (by omega) (by omega)).trans (has_no (not_all (by omega) hi48_1))).symm))⟩

end Go.Proofs.YtcpmjogeafhpnaaDoor.Tx

/- WireOpens. -/
import Derived.Test.YtpnlaeapnokipaaOW4
set_option linter.all false
set_option maxRecDepth 100000
namespace Go.Proofs.Ytpnlaeapnokipaa
open Go.RowKit Go.Sep
attribute [local irreducible] Go.wpList Go.Code.wp

theorem mine_take {l : List UInt8} : (((l.take 300).take 300) ++ ([90] : List UInt8)).take (List.length (l.take 300)) = l.take 300 := by
  rw [List.take_take, Nat.min_self, List.take_left]
theorem mine_last {l : List UInt8} : ((((l.take 300).take 300) ++ ([90] : List UInt8)).getD (List.length (l.take 300)) 0).toNat = 90 := by
  rw [List.take_take, Nat.min_self]; simp
theorem openD_le (l : List UInt8) : (openD l).1.length ≤ l.length := by
  unfold openD
  repeat' split
  all_goals simp
  omega

set_option maxHeartbeats 4000000 in
theorem wireOpens_c {I : IM} {l : List UInt8} {a : Option Addr} {n c : Nat} (hl : BSl I l (.slice a n c)) : Fun Try.prog 10 #[.slice a n c] I (fun v J => v = .bool true) := by
  obtain ⟨rfl, -⟩ := hl.cap
  refine enter_rule 62 [(0, .slice a l.length c)] Try.func10 rfl (by kernel_rfl) ?_
  intro w s
  refine wp_seq ?_
  refine region_rule ?_
  refine ops_rule (C := []) [] [] 1 [] 0 (fun φ1 => [(2, .bool false)]) (fun φ1 => []) (fun φ1 => []) s trivial (fun φ1 => by kernel_rfl) ?_
  intro φ1 w1 s
  refine ops_done (by kernel_rfl) ?_
  refine wp_seq ?_
  refine wp_seq ?_
  refine region_rule ?_
  refine call_rule (some 10) s (awake6_c) (by kernel_rfl) ?_
  intro v2 I2 w2 le2 h2 s
  replace hl := BSl.mono le2 hl
  obtain rfl := h2
  refine ops_rule (C := []) [] [] 1 [] 0 (fun φ3 => [(11, .bool false)]) (fun φ3 => []) (fun φ3 => []) s trivial (fun φ3 => by kernel_rfl) ?_
  intro φ3 w3 s
  refine ops_done (by kernel_rfl) ?_
  refine cond_false_rule (b := false) (by kernel_rfl) rfl ?_
  refine wp_skip ?_
  refine wp_seq ?_
  refine region_rule ?_
  refine ops_rule (C := []) [] [] 1 [] 0 (fun φ4 => [(12, .slice a l.length c)]) (fun φ4 => []) (fun φ4 => []) s trivial (fun φ4 => by kernel_rfl) ?_
  intro φ4 w4 s
  refine call_rule (some 13) s (cut_c (m := 300) hl (by decide)) (by kernel_rfl) ?_
  intro v5 I5 w5 le5 h5 s
  replace hl := BSl.mono le5 hl
  obtain ⟨a5, c5, rfl, h5_0⟩ := h5
  refine ops_rule (C := []) [] [] 1 [] 0 (fun φ6 => [(0, .slice a5 (List.length (l.take 300)) c5)]) (fun φ6 => []) (fun φ6 => []) s trivial (fun φ6 => by kernel_rfl) ?_
  intro φ6 w6 s
  refine ops_done (by kernel_rfl) ?_
  refine wp_seq ?_
  refine region_rule ?_
  refine ops_rule (C := []) [] [] 1 [] 0 (fun φ7 => [(14, .slice a5 (List.length (l.take 300)) c5)]) (fun φ7 => []) (fun φ7 => []) s trivial (fun φ7 => by kernel_rfl) ?_
  intro φ7 w7 s
  refine callF_rule (H := []) (F := []) (some 15) s (cut_r (m := 300) h5_0 (by decide)) (by kernel_rfl) ?_
  intro v8 I8 w8 F8 le8 h8 s
  replace hl := BSl.mono le8 hl
  replace h5_0 := BSl.mono le8 h5_0
  refine ops_rule (C := []) [] F8 1 [] 1 (fun φ9 => [(16, .slice (some ⟨(φ9 0), 0, none⟩) 1 1)]) (fun φ9 => [((φ9 0), .cells #[.int .u8 90] 5)]) (fun φ9 => []) s trivial (fun φ9 => by kernel_rfl) ?_
  intro φ9 w9 s
  refine append_rule (H := [((φ9 0), .cells #[.int .u8 90] 5)]) (F := F8) 34 34 5 Try.t5 (.int .u8 0) 1 1 (some 17) s Try.underlying34 (by kernel_rfl) (by kernel_rfl) (by kernel_rfl) (by kernel_rfl) (by kernel_rfl) (by decide) h8 (src_own (H := [((φ9 0), .cells #[.int .u8 90] 5)]) s 0 (φ9 0) #[.int .u8 90] 5 34 5 1 1 1 [.int .u8 90] (by kernel_rfl) under34 (by kernel_rfl) (by kernel_rfl) (by kernel_rfl)) (by   (try simp only [maxLen, List.length_append, List.length_cons, List.length_nil, List.length_take, List.length_drop]); omega) (by   (try simp only [maxLen, List.length_append, List.length_cons, List.length_nil, List.length_take, List.length_drop]); omega) (by kernel_rfl) ?_
  intro v10 w10 F10 s h10
  replace h10 : RowH 5 1 v10 ((((l.take 300).take 300) ++ ([90] : List UInt8)).length) ((((l.take 300).take 300) ++ ([90] : List UInt8)).map bV) F10 := row_snoc (x := ((l.take 300).take 300)) (y := ([90] : List UInt8)) h10 (by kernel_rfl)
  obtain ⟨I11, le11, hb11, s⟩ := freeze_row (H := [((φ9 0), .cells #[.int .u8 90] 5)]) (F := F10) s h10
  replace hl := BSl.mono le11 hl
  replace h5_0 := BSl.mono le11 h5_0
  obtain ⟨a11, c11, hv11, hc11, hb11⟩ := hb11.open
  subst hv11
  refine ops_rule (C := []) [((φ9 0), .cells #[.int .u8 90] 5)] [] 1 [] 0 (fun φ12 => [(3, .slice a11 ((((l.take 300).take 300) ++ ([90] : List UInt8)).length) c11)]) (fun φ12 => [((φ9 0), .cells #[.int .u8 90] 5)]) (fun φ12 => []) s trivial (fun φ12 => by kernel_rfl) ?_
  intro φ12 w12 s
  refine ops_done (by kernel_rfl) ?_
  refine wp_seq ?_
  refine region_rule ?_
  refine ops_rule (C := []) [((φ9 0), .cells #[.int .u8 90] 5)] [] 3 [] 0 (fun φ13 => [(21, .int .i64 (((List.length (l.take 300)) : Nat) : Int)), (20, .slice a5 (List.length (l.take 300)) c5), (19, .slice a11 ((((l.take 300).take 300) ++ ([90] : List UInt8)).length) c11)]) (fun φ13 => [((φ9 0), .cells #[.int .u8 90] 5)]) (fun φ13 => []) s trivial (fun φ13 => by kernel_rfl) ?_
  intro φ13 w13 s
  refine sem_rule (Instr.sliceAt 34 (.slice a11 ((((l.take 300).take 300) ++ ([90] : List UInt8)).length) c11) none (some (.int .i64 (((List.length (l.take 300)) : Nat) : Int))) none) (some 22) (.slice a11 (List.length (l.take 300)) c11) (by kernel_rfl) (run_to (by have hcp := (BSl.cap hb11).2; (try simp only [List.length_drop, List.length_take, List.length_append, List.length_cons, List.length_nil] at hcp ⊢);   (try simp only [List.length_drop, List.length_take, List.length_append, List.length_cons, List.length_nil]); omega)) ?_
  refine call_rule (some 23) s (open_c (bsl_eq (bsl_to (hi := (List.length (l.take 300))) hb11 (by have hcp := (BSl.cap hb11).2; (try simp only [List.length_drop, List.length_take, List.length_append, List.length_cons, List.length_nil] at hcp ⊢);   (try simp only [List.length_drop, List.length_take, List.length_append, List.length_cons, List.length_nil]); omega)) (mine_take)) (by simp only [List.length_take]; omega)) (by kernel_rfl) ?_
  intro v14 I14 w14 le14 h14 s
  replace hl := BSl.mono le14 hl
  replace h5_0 := BSl.mono le14 h5_0
  replace hb11 := BSl.mono le14 hb11
  obtain ⟨a14, c14, rfl, h14_0⟩ := h14
  refine ops_rule (C := []) [((φ9 0), .cells #[.int .u8 90] 5)] [] 7 [] 0 (fun φ15 => [(6, .int .i64 (((openD (l.take 300)).2.2 : Nat) : Int)), (5, .int .i64 (((openD (l.take 300)).2.1 : Nat) : Int)), (4, .slice a14 (List.length (openD (l.take 300)).1) c14), (26, .int .i64 (((openD (l.take 300)).2.2 : Nat) : Int)), (25, .int .i64 (((openD (l.take 300)).2.1 : Nat) : Int)), (24, .slice a14 (List.length (openD (l.take 300)).1) c14), (18, .tuple #[.slice a14 (List.length (openD (l.take 300)).1) c14, .int .i64 (((openD (l.take 300)).2.1 : Nat) : Int), .int .i64 (((openD (l.take 300)).2.2 : Nat) : Int)])]) (fun φ15 => [((φ9 0), .cells #[.int .u8 90] 5)]) (fun φ15 => []) s trivial (fun φ15 => by kernel_rfl) ?_
  intro φ15 w15 s
  refine ops_done (by kernel_rfl) ?_
  refine wp_seq ?_
  refine region_rule ?_
  refine ops_rule (C := []) [((φ9 0), .cells #[.int .u8 90] 5)] [] 1 [] 0 (fun φ16 => [(28, .slice a5 (List.length (l.take 300)) c5)]) (fun φ16 => [((φ9 0), .cells #[.int .u8 90] 5)]) (fun φ16 => []) s trivial (fun φ16 => by kernel_rfl) ?_
  intro φ16 w16 s
  refine call_rule (some 29) s (refopen_c h5_0 (by simp only [List.length_take]; omega)) (by kernel_rfl) ?_
  intro v17 I17 w17 le17 h17 s
  replace hl := BSl.mono le17 hl
  replace h5_0 := BSl.mono le17 h5_0
  replace hb11 := BSl.mono le17 hb11
  replace h14_0 := BSl.mono le17 h14_0
  obtain ⟨a17, c17, rfl, h17_0⟩ := h17
  refine ops_rule (C := []) [((φ9 0), .cells #[.int .u8 90] 5)] [] 7 [] 0 (fun φ18 => [(9, .int .i64 (((openD (l.take 300)).2.2 : Nat) : Int)), (8, .int .i64 (((openD (l.take 300)).2.1 : Nat) : Int)), (7, .slice a17 (List.length (openD (l.take 300)).1) c17), (32, .int .i64 (((openD (l.take 300)).2.2 : Nat) : Int)), (31, .int .i64 (((openD (l.take 300)).2.1 : Nat) : Int)), (30, .slice a17 (List.length (openD (l.take 300)).1) c17), (27, .tuple #[.slice a17 (List.length (openD (l.take 300)).1) c17, .int .i64 (((openD (l.take 300)).2.1 : Nat) : Int), .int .i64 (((openD (l.take 300)).2.2 : Nat) : Int)])]) (fun φ18 => [((φ9 0), .cells #[.int .u8 90] 5)]) (fun φ18 => []) s trivial (fun φ18 => by kernel_rfl) ?_
  intro φ18 w18 s
  refine ops_done (by kernel_rfl) ?_
  refine wp_seq ?_
  refine region_rule ?_
  refine ops_rule (C := []) [((φ9 0), .cells #[.int .u8 90] 5)] [] 4 [] 0 (fun φ19 => [(36, .bool ((((openD (l.take 300)).2.2 : Nat) : Int) == (((openD (l.take 300)).2.2 : Nat) : Int))), (35, .bool ((((openD (l.take 300)).2.2 : Nat) : Int) == (((openD (l.take 300)).2.2 : Nat) : Int))), (34, .int .i64 (((openD (l.take 300)).2.2 : Nat) : Int)), (33, .int .i64 (((openD (l.take 300)).2.2 : Nat) : Int))]) (fun φ19 => [((φ9 0), .cells #[.int .u8 90] 5)]) (fun φ19 => []) s trivial (fun φ19 => by kernel_rfl) ?_
  intro φ19 w19 s
  rw [(nat_eql (a := ((openD (l.take 300)).2.2)) (b := ((openD (l.take 300)).2.2))).trans (decide_eq_true rfl)]
  rcases Bool.eq_false_or_eq_true (true) with hc20 | hc20
  ·
    refine ops_rule (C := []) [((φ9 0), .cells #[.int .u8 90] 5)] [] 5 [] 0 (fun φ21 => [(41, .bool ((((openD (l.take 300)).2.1 : Nat) : Int) == (((openD (l.take 300)).2.1 : Nat) : Int))), (40, .bool ((((openD (l.take 300)).2.1 : Nat) : Int) == (((openD (l.take 300)).2.1 : Nat) : Int))), (39, .bool ((((openD (l.take 300)).2.1 : Nat) : Int) == (((openD (l.take 300)).2.1 : Nat) : Int))), (38, .int .i64 (((openD (l.take 300)).2.1 : Nat) : Int)), (37, .int .i64 (((openD (l.take 300)).2.1 : Nat) : Int))]) (fun φ21 => [((φ9 0), .cells #[.int .u8 90] 5)]) (fun φ21 => []) s trivial (fun φ21 => by kernel_rfl) ?_
    intro φ21 w21 s
    rw [(nat_eql (a := ((openD (l.take 300)).2.1)) (b := ((openD (l.take 300)).2.1))).trans (decide_eq_true rfl)]
    refine ops_rule (C := []) [((φ9 0), .cells #[.int .u8 90] 5)] [] 2 [] 0 (fun φ22 => [(43, .slice a17 (List.length (openD (l.take 300)).1) c17), (42, .slice a14 (List.length (openD (l.take 300)).1) c14)]) (fun φ22 => [((φ9 0), .cells #[.int .u8 90] 5)]) (fun φ22 => []) s trivial (fun φ22 => by kernel_rfl) ?_
    intro φ22 w22 s
    refine call_rule (some 44) s (sameR_c h14_0 h17_0 (Nat.le_trans (openD_le _) (by simp only [List.length_take]; omega))) (by kernel_rfl) ?_
    intro v23 I23 w23 le23 h23 s
    replace hl := BSl.mono le23 hl
    replace h5_0 := BSl.mono le23 h5_0
    replace hb11 := BSl.mono le23 hb11
    replace h14_0 := BSl.mono le23 h14_0
    replace h17_0 := BSl.mono le23 h17_0
    obtain rfl := h23
    refine ops_rule (C := []) [((φ9 0), .cells #[.int .u8 90] 5)] [] 5 [] 0 (fun φ24 => [(49, .int .i64 (((List.length (l.take 300)) : Nat) : Int)), (48, .slice a5 (List.length (l.take 300)) c5), (47, .slice a11 ((((l.take 300).take 300) ++ ([90] : List UInt8)).length) c11), (46, .bool true), (45, .bool true)]) (fun φ24 => [((φ9 0), .cells #[.int .u8 90] 5)]) (fun φ24 => []) s trivial (fun φ24 => by kernel_rfl) ?_
    intro φ24 w24 s
    refine sem_rule (Instr.sliceAt 34 (.slice a11 ((((l.take 300).take 300) ++ ([90] : List UInt8)).length) c11) none (some (.int .i64 (((List.length (l.take 300)) : Nat) : Int))) none) (some 50) (.slice a11 (List.length (l.take 300)) c11) (by kernel_rfl) (run_to (by have hcp := (BSl.cap hb11).2; (try simp only [List.length_drop, List.length_take, List.length_append, List.length_cons, List.length_nil] at hcp ⊢);   (try simp only [List.length_drop, List.length_take, List.length_append, List.length_cons, List.length_nil]); omega)) ?_
    refine ops_rule (C := []) [((φ9 0), .cells #[.int .u8 90] 5)] [] 1 [] 0 (fun φ25 => [(51, .slice a5 (List.length (l.take 300)) c5)]) (fun φ25 => [((φ9 0), .cells #[.int .u8 90] 5)]) (fun φ25 => []) s trivial (fun φ25 => by kernel_rfl) ?_
    intro φ25 w25 s
    refine call_rule (some 52) s (sameR_c (bsl_eq (bsl_to (hi := (List.length (l.take 300))) hb11 (by have hcp := (BSl.cap hb11).2; (try simp only [List.length_drop, List.length_take, List.length_append, List.length_cons, List.length_nil] at hcp ⊢);   (try simp only [List.length_drop, List.length_take, List.length_append, List.length_cons, List.length_nil]); omega)) (mine_take)) h5_0 (by simp only [List.length_take]; omega)) (by kernel_rfl) ?_
    intro v26 I26 w26 le26 h26 s
    replace hl := BSl.mono le26 hl
    replace h5_0 := BSl.mono le26 h5_0
    replace hb11 := BSl.mono le26 hb11
    replace h14_0 := BSl.mono le26 h14_0
    replace h17_0 := BSl.mono le26 h17_0
    obtain rfl := h26
    refine ops_rule (C := []) [((φ9 0), .cells #[.int .u8 90] 5)] [] 5 [] 0 (fun φ27 => [(57, .int .i64 (((List.length (l.take 300)) : Nat) : Int)), (56, .slice a5 (List.length (l.take 300)) c5), (55, .slice a11 ((((l.take 300).take 300) ++ ([90] : List UInt8)).length) c11), (54, .bool true), (53, .bool true)]) (fun φ27 => [((φ9 0), .cells #[.int .u8 90] 5)]) (fun φ27 => []) s trivial (fun φ27 => by kernel_rfl) ?_
    intro φ27 w27 s
    refine sem_rule (Instr.indexAt 34 (.slice a11 ((((l.take 300).take 300) ++ ([90] : List UInt8)).length) c11) (.int .i64 (((List.length (l.take 300)) : Nat) : Int))) (some 58) (.pointer (pAt a11 (List.length (l.take 300)))) (by kernel_rfl) (bsl_idx hb11 (by   (try simp only [List.length_drop, List.length_take, List.length_append, List.length_cons, List.length_nil]); omega)) ?_
    refine sem_rule (Instr.loadAt 5 (.pointer (pAt a11 (List.length (l.take 300))))) (some 59) (.int .u8 ((((((l.take 300).take 300) ++ ([90] : List UInt8)).getD (List.length (l.take 300)) 0).toNat : Nat) : Int)) (by kernel_rfl) (bsl_ld s.sub hb11 (by   (try simp only [List.length_drop, List.length_take, List.length_append, List.length_cons, List.length_nil]); omega)) ?_
    refine ops_rule (C := []) [((φ9 0), .cells #[.int .u8 90] 5)] [] 3 [] 0 (fun φ28 => [(2, .bool (((((((l.take 300).take 300) ++ ([90] : List UInt8)).getD (List.length (l.take 300)) 0).toNat : Nat) : Int) == ((90 : Nat) : Int))), (61, .bool (((((((l.take 300).take 300) ++ ([90] : List UInt8)).getD (List.length (l.take 300)) 0).toNat : Nat) : Int) == ((90 : Nat) : Int))), (60, .bool (((((((l.take 300).take 300) ++ ([90] : List UInt8)).getD (List.length (l.take 300)) 0).toNat : Nat) : Int) == ((90 : Nat) : Int)))]) (fun φ28 => [((φ9 0), .cells #[.int .u8 90] 5)]) (fun φ28 => []) s trivial (fun φ28 => by kernel_rfl) ?_
    intro φ28 w28 s
    rw [nat_eql (a := (((((l.take 300).take 300) ++ ([90] : List UInt8)).getD (List.length (l.take 300)) 0).toNat)) (b := 90)]
    refine ops_done (by kernel_rfl) ?_
    refine wp_ret ?_
    refine ret_rule (C := []) [((φ9 0), .cells #[.int .u8 90] 5)] [] (.bool (decide ((((((l.take 300).take 300) ++ ([90] : List UInt8)).getD (List.length (l.take 300)) 0).toNat) = 90))) [] [] s trivial (by kernel_rfl) ?_
    exact ⟨_, _, _, rfl, s, (congrArg Value.bool (decide_eq_true mine_last))⟩
  ·
    refine ops_rule (C := []) [((φ9 0), .cells #[.int .u8 90] 5)] [] 5 [] 0 (fun φ29 => [(41, .bool ((((openD (l.take 300)).2.1 : Nat) : Int) == (((openD (l.take 300)).2.1 : Nat) : Int))), (40, .bool ((((openD (l.take 300)).2.1 : Nat) : Int) == (((openD (l.take 300)).2.1 : Nat) : Int))), (39, .bool ((((openD (l.take 300)).2.1 : Nat) : Int) == (((openD (l.take 300)).2.1 : Nat) : Int))), (38, .int .i64 (((openD (l.take 300)).2.1 : Nat) : Int)), (37, .int .i64 (((openD (l.take 300)).2.1 : Nat) : Int))]) (fun φ29 => [((φ9 0), .cells #[.int .u8 90] 5)]) (fun φ29 => []) s trivial (fun φ29 => by kernel_rfl) ?_
    intro φ29 w29 s
    rw [(nat_eql (a := ((openD (l.take 300)).2.1)) (b := ((openD (l.take 300)).2.1))).trans (decide_eq_true rfl)]
    refine ops_rule (C := []) [((φ9 0), .cells #[.int .u8 90] 5)] [] 2 [] 0 (fun φ30 => [(43, .slice a17 (List.length (openD (l.take 300)).1) c17), (42, .slice a14 (List.length (openD (l.take 300)).1) c14)]) (fun φ30 => [((φ9 0), .cells #[.int .u8 90] 5)]) (fun φ30 => []) s trivial (fun φ30 => by kernel_rfl) ?_
    intro φ30 w30 s
    refine call_rule (some 44) s (sameR_c h14_0 h17_0 (Nat.le_trans (openD_le _) (by simp only [List.length_take]; omega))) (by kernel_rfl) ?_
    intro v31 I31 w31 le31 h31 s
    replace hl := BSl.mono le31 hl
    replace h5_0 := BSl.mono le31 h5_0
    replace hb11 := BSl.mono le31 hb11
    replace h14_0 := BSl.mono le31 h14_0
    replace h17_0 := BSl.mono le31 h17_0
    obtain rfl := h31
    refine ops_rule (C := []) [((φ9 0), .cells #[.int .u8 90] 5)] [] 5 [] 0 (fun φ32 => [(49, .int .i64 (((List.length (l.take 300)) : Nat) : Int)), (48, .slice a5 (List.length (l.take 300)) c5), (47, .slice a11 ((((l.take 300).take 300) ++ ([90] : List UInt8)).length) c11), (46, .bool true), (45, .bool true)]) (fun φ32 => [((φ9 0), .cells #[.int .u8 90] 5)]) (fun φ32 => []) s trivial (fun φ32 => by kernel_rfl) ?_
    intro φ32 w32 s
    refine sem_rule (Instr.sliceAt 34 (.slice a11 ((((l.take 300).take 300) ++ ([90] : List UInt8)).length) c11) none (some (.int .i64 (((List.length (l.take 300)) : Nat) : Int))) none) (some 50) (.slice a11 (List.length (l.take 300)) c11) (by kernel_rfl) (run_to (by have hcp := (BSl.cap hb11).2; (try simp only [List.length_drop, List.length_take, List.length_append, List.length_cons, List.length_nil] at hcp ⊢);   (try simp only [List.length_drop, List.length_take, List.length_append, List.length_cons, List.length_nil]); omega)) ?_
    refine ops_rule (C := []) [((φ9 0), .cells #[.int .u8 90] 5)] [] 1 [] 0 (fun φ33 => [(51, .slice a5 (List.length (l.take 300)) c5)]) (fun φ33 => [((φ9 0), .cells #[.int .u8 90] 5)]) (fun φ33 => []) s trivial (fun φ33 => by kernel_rfl) ?_
    intro φ33 w33 s
    refine call_rule (some 52) s (sameR_c (bsl_eq (bsl_to (hi := (List.length (l.take 300))) hb11 (by have hcp := (BSl.cap hb11).2; (try simp only [List.length_drop, List.length_take, List.length_append, List.length_cons, List.length_nil] at hcp ⊢);   (try simp only [List.length_drop, List.length_take, List.length_append, List.length_cons, List.length_nil]); omega)) (mine_take)) h5_0 (by simp only [List.length_take]; omega)) (by kernel_rfl) ?_
    intro v34 I34 w34 le34 h34 s
    replace hl := BSl.mono le34 hl
    replace h5_0 := BSl.mono le34 h5_0
    replace hb11 := BSl.mono le34 hb11
    replace h14_0 := BSl.mono le34 h14_0
    replace h17_0 := BSl.mono le34 h17_0
    obtain rfl := h34
    refine ops_rule (C := []) [((φ9 0), .cells #[.int .u8 90] 5)] [] 5 [] 0 (fun φ35 => [(57, .int .i64 (((List.length (l.take 300)) : Nat) : Int)), (56, .slice a5 (List.length (l.take 300)) c5), (55, .slice a11 ((((l.take 300).take 300) ++ ([90] : List UInt8)).length) c11), (54, .bool true), (53, .bool true)]) (fun φ35 => [((φ9 0), .cells #[.int .u8 90] 5)]) (fun φ35 => []) s trivial (fun φ35 => by kernel_rfl) ?_
    intro φ35 w35 s
    refine sem_rule (Instr.indexAt 34 (.slice a11 ((((l.take 300).take 300) ++ ([90] : List UInt8)).length) c11) (.int .i64 (((List.length (l.take 300)) : Nat) : Int))) (some 58) (.pointer (pAt a11 (List.length (l.take 300)))) (by kernel_rfl) (bsl_idx hb11 (by   (try simp only [List.length_drop, List.length_take, List.length_append, List.length_cons, List.length_nil]); omega)) ?_
    refine sem_rule (Instr.loadAt 5 (.pointer (pAt a11 (List.length (l.take 300))))) (some 59) (.int .u8 ((((((l.take 300).take 300) ++ ([90] : List UInt8)).getD (List.length (l.take 300)) 0).toNat : Nat) : Int)) (by kernel_rfl) (bsl_ld s.sub hb11 (by   (try simp only [List.length_drop, List.length_take, List.length_append, List.length_cons, List.length_nil]); omega)) ?_
    refine ops_rule (C := []) [((φ9 0), .cells #[.int .u8 90] 5)] [] 3 [] 0 (fun φ36 => [(2, .bool (((((((l.take 300).take 300) ++ ([90] : List UInt8)).getD (List.length (l.take 300)) 0).toNat : Nat) : Int) == ((90 : Nat) : Int))), (61, .bool (((((((l.take 300).take 300) ++ ([90] : List UInt8)).getD (List.length (l.take 300)) 0).toNat : Nat) : Int) == ((90 : Nat) : Int))), (60, .bool (((((((l.take 300).take 300) ++ ([90] : List UInt8)).getD (List.length (l.take 300)) 0).toNat : Nat) : Int) == ((90 : Nat) : Int)))]) (fun φ36 => [((φ9 0), .cells #[.int .u8 90] 5)]) (fun φ36 => []) s trivial (fun φ36 => by kernel_rfl) ?_
    intro φ36 w36 s
    rw [nat_eql (a := (((((l.take 300).take 300) ++ ([90] : List UInt8)).getD (List.length (l.take 300)) 0).toNat)) (b := 90)]
    refine ops_done (by kernel_rfl) ?_
    refine wp_ret ?_
    refine ret_rule (C := []) [((φ9 0), .cells #[.int .u8 90] 5)] [] (.bool (decide ((((((l.take 300).take 300) ++ ([90] : List UInt8)).getD (List.length (l.take 300)) 0).toNat) = 90))) [] [] s trivial (by kernel_rfl) ?_
    exact ⟨_, _, _, rfl, s, (congrArg Value.bool (decide_eq_true mine_last))⟩

end Go.Proofs.Ytpnlaeapnokipaa

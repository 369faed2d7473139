/- The frame in front. -/
import Derived.Test.YtpnlaeapnokipaaRW3
set_option linter.all false
set_option maxRecDepth 100000
namespace Go.Proofs.Ytpnlaeapnokipaa
open Go.RowKit Go.Sep
attribute [local irreducible] Go.wpList Go.Code.wp

def opR (q : List UInt8 × Nat × Nat) (v : Value) (J : IM) : Prop := ∃ a c, v = .tuple #[.slice a (List.length q.1) c, .int .i64 ((q.2.1 : Nat) : Int), .int .i64 ((q.2.2 : Nat) : Int)] ∧ BSl J q.1 (.slice a (List.length q.1) c)
theorem openD_short {l : List UInt8} (h : l.length < 8) : openD l = ([], 0, 6) := by unfold openD; rw [if_pos h]
theorem openD_long {l : List UInt8} (h : ¬ l.length < 8) (h2 : 1048576 < le4 l) : openD l = ([], 0, 9) := by unfold openD; rw [if_neg h, if_pos h2]
theorem openD_cut {l : List UInt8} (h : ¬ l.length < 8) (h2 : ¬ 1048576 < le4 l) (h3 : l.length - 8 < le4 l) : openD l = ([], 0, 6) := by unfold openD; rw [if_neg h, if_neg h2, if_pos h3]
theorem openD_sum {l : List UInt8} (h : ¬ l.length < 8) (h2 : ¬ 1048576 < le4 l) (h3 : ¬ l.length - 8 < le4 l) (h4 : 4294967295 - crc (crc 4294967295 (l.take 4)) ((l.drop 8).take (le4 l)) ≠ le4 (l.drop 4)) : openD l = ([], 0, 13) := by unfold openD; rw [if_neg h, if_neg h2, if_neg h3, if_pos h4]
theorem openD_ok {l : List UInt8} (h : ¬ l.length < 8) (h2 : ¬ 1048576 < le4 l) (h3 : ¬ l.length - 8 < le4 l) (h4 : ¬ 4294967295 - crc (crc 4294967295 (l.take 4)) ((l.drop 8).take (le4 l)) ≠ le4 (l.drop 4)) : openD l = ((l.drop 8).take (le4 l), 8 + le4 l, 0) := by unfold openD; rw [if_neg h, if_neg h2, if_neg h3, if_neg h4]
set_option maxHeartbeats 4000000 in
theorem open_c {I : IM} {l : List UInt8} {a : Option Addr} {n c : Nat} (hl : BSl I l (.slice a n c)) (hn : l.length ≤ 1000000000) : Fun Try.prog 40 #[.slice a n c] I (fun v J => opR (openD l) v J) := by
  obtain ⟨rfl, -⟩ := hl.cap
  refine enter_rule 39 [(0, .slice a l.length c)] Try.func40 rfl (by kernel_rfl) ?_
  intro w s
  refine wp_seq ?_
  refine region_rule ?_
  refine ops_rule (C := []) [] [] 3 [] 0 (fun φ1 => [(4, .int .i64 0), (3, .int .i64 0), (2, .slice none 0 0)]) (fun φ1 => []) (fun φ1 => []) s trivial (fun φ1 => by kernel_rfl) ?_
  intro φ1 w1 s
  refine ops_done (by kernel_rfl) ?_
  refine wp_seq ?_
  refine wp_seq ?_
  refine region_rule ?_
  refine ops_rule (C := []) [] [] 3 [] 0 (fun φ2 => [(10, .bool (decide (((l.length : Nat) : Int) < ((8 : Nat) : Int)))), (9, .int .i64 ((l.length : Nat) : Int)), (8, .slice a l.length c)]) (fun φ2 => []) (fun φ2 => []) s trivial (fun φ2 => by kernel_rfl) ?_
  intro φ2 w2 s
  rw [nat_lss (a := l.length) (b := 8)]
  refine ops_done (by kernel_rfl) ?_
  rcases Bool.eq_false_or_eq_true (decide (l.length < 8)) with hc3 | hc3
  ·
    rw [hc3]
    refine cond_true_rule (b := true) (by kernel_rfl) rfl ?_
    refine wp_seq ?_
    refine region_rule ?_
    refine ops_rule (C := []) [] [] 3 [] 0 (fun φ4 => [(4, .int .i64 6), (3, .int .i64 0), (2, .slice none 0 0)]) (fun φ4 => []) (fun φ4 => []) s trivial (fun φ4 => by kernel_rfl) ?_
    intro φ4 w4 s
    refine ops_done (by kernel_rfl) ?_
    refine wp_ret ?_
    refine ret_rule (C := []) [] [] (.tuple #[.slice none 0 0, .int .i64 0, .int .i64 6]) [] [] s trivial (by kernel_rfl) ?_
    exact ⟨_, _, _, rfl, s, (by rw [openD_short (of_decide_eq_true hc3)]; exact ⟨none, 0, rfl, bsl_nil _⟩)⟩
  ·
    rw [hc3]
    refine cond_false_rule (b := false) (by kernel_rfl) rfl ?_
    refine wp_skip ?_
    refine wp_seq ?_
    refine draw_rule (C := []) ⟨(fun φ5 xs5 => [.look 0 [] [], .call 72 #[.slice a l.length c], .look 0 [] [], .ran (Instr.sliceAt 34 (.slice a l.length c) (some (.int .i64 ((4 : Nat) : Int))) none none), .call 72 #[.slice (subA a 4 c) (l.length - 4) (c - 4)], .look 0 [] [], .ran (Instr.sliceAt 34 (.slice a l.length c) (some (.int .i64 ((8 : Nat) : Int))) none none), .look 0 [] [], .look 0 [] [], .look 0 [] []]), (fun φ5 xs5 => [.slice a l.length c, .int .u32 ((le4 l : Nat) : Int), .slice a l.length c, .slice (subA a 4 c) (l.length - 4) (c - 4), .int .u32 ((le4 (l.drop 4) : Nat) : Int), .slice a l.length c, .slice (subA a 8 c) (l.length - 8) (c - 8), .int .u32 ((le4 l : Nat) : Int), .int .u32 ((le4 (l.drop 4) : Nat) : Int), .slice (subA a 8 c) (l.length - 8) (c - 8)]), (fun φ5 xs5 => [[]]), (fun φ5 xs5 => [[default, default, default, default, default, default, default, default, default, default]]), [], [1, 3, 1, 6, 3, 1, 6, 1, 1, 1]⟩ (fun j => ([MP.any, MP.any, MP.any, MP.any, MP.any, MP.any, MP.any, MP.any, MP.any, MP.any] : List MP).getD j MP.any) [1, 4] [] [3, 6] (fun φ5 xs5 => []) (fun φ5 xs5 => [(11, .slice a l.length c), (12, .int .u32 ((le4 l : Nat) : Int)), (13, .slice a l.length c), (14, .slice (subA a 4 c) (l.length - 4) (c - 4)), (15, .int .u32 ((le4 (l.drop 4) : Nat) : Int)), (16, .slice a l.length c), (17, .slice (subA a 8 c) (l.length - 8) (c - 8)), (5, .int .u32 ((le4 l : Nat) : Int)), (6, .int .u32 ((le4 (l.drop 4) : Nat) : Int)), (7, .slice (subA a 8 c) (l.length - 8) (c - 8))]) (fun φ5 xs5 => []) s trivial (by kernel_rfl) (by kernel_rfl) (fun _ _ => by kernel_rfl) (fun _ _ => by kernel_rfl) ⟨fun _ _ => by kernel_rfl, fun _ _ => by kernel_rfl, fun _ _ => by kernel_rfl, fun _ _ => by kernel_rfl⟩ (fun _ _ _ => by kernel_rfl) (fun _ _ => by kernel_rfl) (fun _ _ => by kernel_rfl) (fun _ _ => by kernel_rfl) (fun _ _ => by kernel_rfl) (fun _ _ => by kernel_rfl) trivial ⟨kcast (A := ∀ (φ5 : Nat → Nat) (xs5 : Xs) (J : IM) (w : World), I.Le J → J.Sub w → ((Instr.sliceAt 34 (.slice a l.length c) (some (.int .i64 ((4 : Nat) : Int))) none none) : Sem Value).run Try.prog w = .ok (.slice (subA a 4 c) (l.length - 4) (c - 4)) w) (by kernel_rfl) (fun φ5 xs5 J w hJ hS => run_from (by have hcp := (BSl.cap hl).2; (try simp only [List.length_drop, List.length_take, List.length_append, List.length_cons, List.length_nil] at hcp ⊢);  have hq0 := of_decide_eq_false hc3; omega)), ⟨kcast (A := ∀ (φ5 : Nat → Nat) (xs5 : Xs) (J : IM) (w : World), I.Le J → J.Sub w → ((Instr.sliceAt 34 (.slice a l.length c) (some (.int .i64 ((8 : Nat) : Int))) none none) : Sem Value).run Try.prog w = .ok (.slice (subA a 8 c) (l.length - 8) (c - 8)) w) (by kernel_rfl) (fun φ5 xs5 J w hJ hS => run_from (by have hcp := (BSl.cap hl).2; (try simp only [List.length_drop, List.length_take, List.length_append, List.length_cons, List.length_nil] at hcp ⊢);  have hq0 := of_decide_eq_false hc3; omega)), trivial⟩⟩ (by kernel_rfl) ⟨?c5_1, ?c5_4, trivial⟩ ?k5
    case c5_1 =>
      refine kcast (A := ∀ (φ5 : Nat → Nat) (xs5 : Xs) (J1_5 : IM), I.Le J1_5 → Fun Try.prog 72 #[.slice a l.length c] J1_5 (fun v J' => ∃ x : UX, v = .int .u32 ((le4 l : Nat) : Int) ∧ (True))) (by kernel_rfl) ?_
      intro φ5 xs5 J1_5 leJ
      have hl := BSl.mono leJ hl
      exact Fun.mono (word_c hl (by  have hq0 := of_decide_eq_false hc3; (try simp only [List.length_append, List.length_cons, List.length_nil, List.length_take, List.length_drop]); omega) (by  have hq0 := of_decide_eq_false hc3; (try simp only [List.length_append, List.length_cons, List.length_nil, List.length_take, List.length_drop]); omega)) (fun v J' _ h => ⟨UX.d, h, trivial⟩)
    case c5_4 =>
      refine kcast (A := ∀ (φ5 : Nat → Nat) (xs5 : Xs) (J4_5 : IM), I.Le J4_5 → (True) → Fun Try.prog 72 #[.slice (subA a 4 c) (l.length - 4) (c - 4)] J4_5 (fun v J' => ∃ x : UX, v = .int .u32 ((le4 (l.drop 4) : Nat) : Int) ∧ (True))) (by kernel_rfl) ?_
      intro φ5 xs5 J4_5 leJ
      rintro _
      have hl := BSl.mono leJ hl
      exact Fun.mono (word_c (bsl_from (lo := 4) hl (by have hcp := (BSl.cap hl).2; (try simp only [List.length_drop, List.length_take, List.length_append, List.length_cons, List.length_nil] at hcp ⊢);  have hq0 := of_decide_eq_false hc3; omega)) (by  have hq0 := of_decide_eq_false hc3; (try simp only [List.length_append, List.length_cons, List.length_nil, List.length_take, List.length_drop]); omega) (by  have hq0 := of_decide_eq_false hc3; (try simp only [List.length_append, List.length_cons, List.length_nil, List.length_take, List.length_drop]); omega)) (fun v J' _ h => ⟨UX.d, h, trivial⟩)
    case k5 =>
      rintro φ5 xs5 I5 w5 le5 s _ _
      replace hl := BSl.mono le5 hl
      refine wp_seq ?_
      refine wp_seq ?_
      refine region_rule ?_
      refine ops_rule (C := []) [] [] 2 [] 0 (fun φ6 => [(19, .bool (decide (((le4 l : Nat) : Int) > ((1048576 : Nat) : Int)))), (18, .int .u32 ((le4 l : Nat) : Int))]) (fun φ6 => []) (fun φ6 => []) s trivial (fun φ6 => by kernel_rfl) ?_
      intro φ6 w6 s
      rw [nat_gtr (a := (le4 l)) (b := 1048576)]
      refine ops_done (by kernel_rfl) ?_
      rcases Bool.eq_false_or_eq_true (decide (1048576 < (le4 l))) with hc7 | hc7
      ·
        rw [hc7]
        refine cond_true_rule (b := true) (by kernel_rfl) rfl ?_
        refine wp_seq ?_
        refine region_rule ?_
        refine ops_rule (C := []) [] [] 3 [] 0 (fun φ8 => [(4, .int .i64 9), (3, .int .i64 0), (2, .slice none 0 0)]) (fun φ8 => []) (fun φ8 => []) s trivial (fun φ8 => by kernel_rfl) ?_
        intro φ8 w8 s
        refine ops_done (by kernel_rfl) ?_
        refine wp_ret ?_
        refine ret_rule (C := []) [] [] (.tuple #[.slice none 0 0, .int .i64 0, .int .i64 9]) [] [] s trivial (by kernel_rfl) ?_
        exact ⟨_, _, _, rfl, s, (by rw [openD_long (of_decide_eq_false hc3) (of_decide_eq_true hc7)]; exact ⟨none, 0, rfl, bsl_nil _⟩)⟩
      ·
        rw [hc7]
        refine cond_false_rule (b := false) (by kernel_rfl) rfl ?_
        refine wp_skip ?_
        refine wp_seq ?_
        refine wp_seq ?_
        refine region_rule ?_
        refine ops_rule (C := []) [] [] 5 [] 0 (fun φ9 => [(24, .bool (decide ((IntKind.wrap .i64 ((le4 l : Nat) : Int)) > (((l.length - 8) : Nat) : Int)))), (23, .int .i64 (((l.length - 8) : Nat) : Int)), (22, .slice (subA a 8 c) (l.length - 8) (c - 8)), (21, .int .i64 (IntKind.wrap .i64 ((le4 l : Nat) : Int))), (20, .int .u32 ((le4 l : Nat) : Int))]) (fun φ9 => []) (fun φ9 => []) s trivial (fun φ9 => by kernel_rfl) ?_
        intro φ9 w9 s
        rw [nat_wrapI (a := (le4 l)) (by  have := le4_lt l; have hq0 := of_decide_eq_false hc3; have hq1 := of_decide_eq_false hc7; omega)]
        rw [nat_gtr (a := (le4 l)) (b := (l.length - 8))]
        refine ops_done (by kernel_rfl) ?_
        rcases Bool.eq_false_or_eq_true (decide ((l.length - 8) < (le4 l))) with hc10 | hc10
        ·
          rw [hc10]
          refine cond_true_rule (b := true) (by kernel_rfl) rfl ?_
          refine wp_seq ?_
          refine region_rule ?_
          refine ops_rule (C := []) [] [] 3 [] 0 (fun φ11 => [(4, .int .i64 6), (3, .int .i64 0), (2, .slice none 0 0)]) (fun φ11 => []) (fun φ11 => []) s trivial (fun φ11 => by kernel_rfl) ?_
          intro φ11 w11 s
          refine ops_done (by kernel_rfl) ?_
          refine wp_ret ?_
          refine ret_rule (C := []) [] [] (.tuple #[.slice none 0 0, .int .i64 0, .int .i64 6]) [] [] s trivial (by kernel_rfl) ?_
          exact ⟨_, _, _, rfl, s, (by rw [openD_cut (of_decide_eq_false hc3) (of_decide_eq_false hc7) (by have := (of_decide_eq_true hc10); have := (of_decide_eq_false hc3); omega)]; exact ⟨none, 0, rfl, bsl_nil _⟩)⟩
        ·
          rw [hc10]
          refine cond_false_rule (b := false) (by kernel_rfl) rfl ?_
          refine wp_skip ?_
          refine wp_seq ?_
          refine region_rule ?_
          refine ops_rule (C := []) [] [] 2 [] 0 (fun φ12 => [(26, .int .u32 ((le4 l : Nat) : Int)), (25, .slice (subA a 8 c) (l.length - 8) (c - 8))]) (fun φ12 => []) (fun φ12 => []) s trivial (fun φ12 => by kernel_rfl) ?_
          intro φ12 w12 s
          refine sem_rule (Instr.sliceAt 34 (.slice (subA a 8 c) (l.length - 8) (c - 8)) none (some (.int .u32 ((le4 l : Nat) : Int))) none) (some 27) (.slice (subA a 8 c) (le4 l) (c - 8)) (by kernel_rfl) (run_to (by have hcp := (BSl.cap (bsl_from (lo := 8) hl (by have hcp := (BSl.cap hl).2; (try simp only [List.length_drop, List.length_take, List.length_append, List.length_cons, List.length_nil] at hcp ⊢);  have hq0 := of_decide_eq_false hc3; omega))).2; (try simp only [List.length_drop, List.length_take, List.length_append, List.length_cons, List.length_nil] at hcp ⊢);  have := le4_lt l; have hq0 := of_decide_eq_false hc3; have hq1 := of_decide_eq_false hc7; have hq2 := of_decide_eq_false hc10; omega)) ?_
          refine ops_rule (C := []) [] [] 1 [] 0 (fun φ13 => [(7, .slice (subA a 8 c) (le4 l) (c - 8))]) (fun φ13 => []) (fun φ13 => []) s trivial (fun φ13 => by kernel_rfl) ?_
          intro φ13 w13 s
          refine ops_done (by kernel_rfl) ?_
          refine wp_seq ?_
          refine wp_seq ?_
          refine region_rule ?_
          refine ops_rule (C := []) [] [] 1 [] 0 (fun φ14 => [(28, .slice a l.length c)]) (fun φ14 => []) (fun φ14 => []) s trivial (fun φ14 => by kernel_rfl) ?_
          intro φ14 w14 s
          refine sem_rule (Instr.sliceAt 34 (.slice a l.length c) none (some (.int .i64 ((4 : Nat) : Int))) none) (some 29) (.slice a 4 c) (by kernel_rfl) (run_to (by have hcp := (BSl.cap hl).2; (try simp only [List.length_drop, List.length_take, List.length_append, List.length_cons, List.length_nil] at hcp ⊢);  have hq0 := of_decide_eq_false hc3; have hq1 := of_decide_eq_false hc7; have hq2 := of_decide_eq_false hc10; omega)) ?_
          refine ops_rule (C := []) [] [] 1 [] 0 (fun φ15 => [(30, .slice (subA a 8 c) (le4 l) (c - 8))]) (fun φ15 => []) (fun φ15 => []) s trivial (fun φ15 => by kernel_rfl) ?_
          intro φ15 w15 s
          refine call_rule (some 31) s (frameSum_c (bsl_to (hi := 4) hl (by have hcp := (BSl.cap hl).2; (try simp only [List.length_drop, List.length_take, List.length_append, List.length_cons, List.length_nil] at hcp ⊢);  have hq0 := of_decide_eq_false hc3; have hq1 := of_decide_eq_false hc7; have hq2 := of_decide_eq_false hc10; omega)) (by  have hq0 := of_decide_eq_false hc3; have hq1 := of_decide_eq_false hc7; have hq2 := of_decide_eq_false hc10; (try simp only [List.length_append, List.length_cons, List.length_nil, List.length_take, List.length_drop]); omega) (bsl_to (hi := le4 l) (bsl_from (lo := 8) hl (by have hcp := (BSl.cap hl).2; (try simp only [List.length_drop, List.length_take, List.length_append, List.length_cons, List.length_nil] at hcp ⊢);  have hq0 := of_decide_eq_false hc3; omega)) (by have hcp := (BSl.cap (bsl_from (lo := 8) hl (by have hcp := (BSl.cap hl).2; (try simp only [List.length_drop, List.length_take, List.length_append, List.length_cons, List.length_nil] at hcp ⊢);  have hq0 := of_decide_eq_false hc3; omega))).2; (try simp only [List.length_drop, List.length_take, List.length_append, List.length_cons, List.length_nil] at hcp ⊢);  have := le4_lt l; have hq0 := of_decide_eq_false hc3; have hq1 := of_decide_eq_false hc7; have hq2 := of_decide_eq_false hc10; omega)) (by  have hq0 := of_decide_eq_false hc3; have hq1 := of_decide_eq_false hc7; have hq2 := of_decide_eq_false hc10; (try simp only [List.length_append, List.length_cons, List.length_nil, List.length_take, List.length_drop]); omega)) (by kernel_rfl) ?_
          intro v16 I16 w16 le16 h16 s
          replace hl := BSl.mono le16 hl
          obtain rfl := h16
          refine ops_rule (C := []) [] [] 2 [] 0 (fun φ17 => [(33, .bool (((4294967295 - crc (crc 4294967295 (l.take 4)) ((l.drop 8).take (le4 l)) : Nat) : Int) != ((le4 (l.drop 4) : Nat) : Int))), (32, .int .u32 ((le4 (l.drop 4) : Nat) : Int))]) (fun φ17 => []) (fun φ17 => []) s trivial (fun φ17 => by kernel_rfl) ?_
          intro φ17 w17 s
          rw [nat_neq (a := (4294967295 - crc (crc 4294967295 (l.take 4)) ((l.drop 8).take (le4 l)))) (b := (le4 (l.drop 4)))]
          refine ops_done (by kernel_rfl) ?_
          rcases Bool.eq_false_or_eq_true (decide ((4294967295 - crc (crc 4294967295 (l.take 4)) ((l.drop 8).take (le4 l))) ≠ (le4 (l.drop 4)))) with hc18 | hc18
          ·
            rw [hc18]
            refine cond_true_rule (b := true) (by kernel_rfl) rfl ?_
            refine wp_seq ?_
            refine region_rule ?_
            refine ops_rule (C := []) [] [] 3 [] 0 (fun φ19 => [(4, .int .i64 13), (3, .int .i64 0), (2, .slice none 0 0)]) (fun φ19 => []) (fun φ19 => []) s trivial (fun φ19 => by kernel_rfl) ?_
            intro φ19 w19 s
            refine ops_done (by kernel_rfl) ?_
            refine wp_ret ?_
            refine ret_rule (C := []) [] [] (.tuple #[.slice none 0 0, .int .i64 0, .int .i64 13]) [] [] s trivial (by kernel_rfl) ?_
            exact ⟨_, _, _, rfl, s, (by rw [openD_sum (of_decide_eq_false hc3) (of_decide_eq_false hc7) (by have := (of_decide_eq_false hc10); have := (of_decide_eq_false hc3); omega) (of_decide_eq_true hc18)]; exact ⟨none, 0, rfl, bsl_nil _⟩)⟩
          ·
            rw [hc18]
            refine cond_false_rule (b := false) (by kernel_rfl) rfl ?_
            refine wp_skip ?_
            refine wp_seq ?_
            refine region_rule ?_
            refine ops_rule (C := []) [] [] 1 [] 0 (fun φ20 => [(34, .slice (subA a 8 c) (le4 l) (c - 8))]) (fun φ20 => []) (fun φ20 => []) s trivial (fun φ20 => by kernel_rfl) ?_
            intro φ20 w20 s
            refine call_rule (some 35) s (clone_c (bsl_to (hi := le4 l) (bsl_from (lo := 8) hl (by have hcp := (BSl.cap hl).2; (try simp only [List.length_drop, List.length_take, List.length_append, List.length_cons, List.length_nil] at hcp ⊢);  have hq0 := of_decide_eq_false hc3; omega)) (by have hcp := (BSl.cap (bsl_from (lo := 8) hl (by have hcp := (BSl.cap hl).2; (try simp only [List.length_drop, List.length_take, List.length_append, List.length_cons, List.length_nil] at hcp ⊢);  have hq0 := of_decide_eq_false hc3; omega))).2; (try simp only [List.length_drop, List.length_take, List.length_append, List.length_cons, List.length_nil] at hcp ⊢);  have := le4_lt l; have hq0 := of_decide_eq_false hc3; have hq1 := of_decide_eq_false hc7; have hq2 := of_decide_eq_false hc10; omega)) (by  have hq0 := of_decide_eq_false hc3; have hq1 := of_decide_eq_false hc7; have hq2 := of_decide_eq_false hc10; have hq3 := of_decide_eq_false hc18; (try simp only [List.length_append, List.length_cons, List.length_nil, List.length_take, List.length_drop]); omega)) (by kernel_rfl) ?_
            intro v21 I21 w21 le21 h21 s
            replace hl := BSl.mono le21 hl
            obtain ⟨a21, c21, rfl, h21_0⟩ := h21
            refine ops_rule (C := []) [] [] 6 [] 0 (fun φ22 => [(4, .int .i64 0), (3, .int .i64 (IntKind.wrap .i64 (((8 : Nat) : Int) + (((le4 l) : Nat) : Int)))), (2, .slice a21 (List.length ((l.drop 8).take (le4 l))) c21), (38, .int .i64 (IntKind.wrap .i64 (((8 : Nat) : Int) + (((le4 l) : Nat) : Int)))), (37, .int .i64 (((le4 l) : Nat) : Int)), (36, .slice (subA a 8 c) (le4 l) (c - 8))]) (fun φ22 => []) (fun φ22 => []) s trivial (fun φ22 => by kernel_rfl) ?_
            intro φ22 w22 s
            rw [nat_addI (a := 8) (b := (le4 l)) (by  have := le4_lt l; have hq0 := of_decide_eq_false hc3; have hq1 := of_decide_eq_false hc7; have hq2 := of_decide_eq_false hc10; have hq3 := of_decide_eq_false hc18; omega)]
            refine ops_done (by kernel_rfl) ?_
            refine wp_ret ?_
            refine ret_rule (C := []) [] [] (.tuple #[.slice a21 (List.length ((l.drop 8).take (le4 l))) c21, .int .i64 ((8 + (le4 l) : Nat) : Int), .int .i64 0]) [] [] s trivial (by kernel_rfl) ?_
            exact ⟨_, _, _, rfl, s, (by rw [openD_ok (of_decide_eq_false hc3) (of_decide_eq_false hc7) (by have := (of_decide_eq_false hc10); have := (of_decide_eq_false hc3); omega) (of_decide_eq_false hc18)]; exact ⟨_, _, rfl, h21_0⟩)⟩

end Go.Proofs.Ytpnlaeapnokipaa

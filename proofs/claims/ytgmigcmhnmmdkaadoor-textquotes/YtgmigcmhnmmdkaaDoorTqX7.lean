/- The program's Unquote. -/
import Derived.Test.YtgmigcmhnmmdkaaDoorTqT9
set_option linter.all false
set_option maxRecDepth 100000
namespace Go.Proofs.YtgmigcmhnmmdkaaDoor
open Go.RowKit Go.Sep
attribute [local irreducible] Go.wpList Go.Code.wp

set_option maxHeartbeats 1000000 in
theorem digit_c {I : IM} {c : Nat} (hc : c < 256) : Fun Tryd.prog 93 #[.int .u8 ((c : Nat) : Int)] I (fun v J => v = .int .u8 ((digP c : Nat) : Int)) := by
  refine enter_rule 6 [(0, .int .u8 ((c : Nat) : Int))] Tryd.func93 rfl (by kernel_rfl) ?_
  intro w s
  refine wp_seq ?_
  refine region_rule ?_
  refine ops_rule (C := []) [] [] 1 [] 0 (fun φ1 => [(2, .int .u8 0)]) (fun φ1 => []) (fun φ1 => []) s trivial (fun φ1 => by kernel_rfl) ?_
  intro φ1 w1 s
  refine ops_done (by kernel_rfl) ?_
  refine wp_seq ?_
  refine region_rule ?_
  refine ops_rule (C := []) [] [] 1 [] 0 (fun φ2 => [(3, .int .u8 ((c : Nat) : Int))]) (fun φ2 => []) (fun φ2 => []) s trivial (fun φ2 => by kernel_rfl) ?_
  intro φ2 w2 s
  refine call_rule (some 4) s (index_c (c := c)) (by kernel_rfl) ?_
  intro v3 I3 w3 le3 h3 s
  obtain rfl := h3
  refine sem_rule (convert 3 5 (.int .i64 (idxH c))) (some 5) (.int .u8 ((digP c : Nat) : Int)) (by kernel_rfl) (conv_dig hc) ?_
  refine ops_rule (C := []) [] [] 1 [] 0 (fun φ4 => [(2, .int .u8 ((digP c : Nat) : Int))]) (fun φ4 => []) (fun φ4 => []) s trivial (fun φ4 => by kernel_rfl) ?_
  intro φ4 w4 s
  refine ops_done (by kernel_rfl) ?_
  refine wp_ret ?_
  refine ret_rule (C := []) [] [] (.int .u8 ((digP c : Nat) : Int)) [] [] s trivial (by kernel_rfl) ?_
  exact ⟨_, _, _, rfl, s, rfl⟩

set_option maxHeartbeats 2000000 in
theorem first_c {I : IM} {l : List UInt8} (hn : l.length ≤ 1000000) (h0 : 0 < l.length) : Fun Tryd.prog 61 #[.string ⟨(l).toArray⟩] I (fun v J => v = .int .u8 ((fstP l : Nat) : Int)) := by
  refine enter_rule 26 [(0, .string ⟨(l).toArray⟩)] Tryd.func61 rfl (by kernel_rfl) ?_
  intro w s
  refine wp_seq ?_
  refine region_rule ?_
  refine ops_rule (C := []) [] [] 1 [] 0 (fun φ1 => [(2, .int .u8 0)]) (fun φ1 => []) (fun φ1 => []) s trivial (fun φ1 => by kernel_rfl) ?_
  intro φ1 w1 s
  refine ops_done (by kernel_rfl) ?_
  refine wp_seq ?_
  refine wp_block ?_
  refine wp_seq ?_
  refine region_rule ?_
  refine ops_rule (C := []) [] [] 1 [] 0 (fun φ2 => [(4, .string ⟨(l).toArray⟩)]) (fun φ2 => []) (fun φ2 => []) s trivial (fun φ2 => by kernel_rfl) ?_
  intro φ2 w2 s
  refine sem_rule (Instr.index 9 (.string ⟨(l).toArray⟩) (.int .i64 ((0 : Nat) : Int))) (some 5) (.int .u8 (((l.getD 0 0).toNat : Nat) : Int)) (by kernel_rfl) (run_idxK (s := l) (i := 0) (by have hd1 := digP_lt (l.getD 1 0).toNat; have hd2 := digP_lt (l.getD 2 0).toNat;  (try simp only [List.length_drop, List.length_take, List.length_append, List.length_cons, List.length_nil]); omega)) ?_
  refine ops_rule (C := []) [] [] 2 [] 0 (fun φ3 => [(3, .bool ((((l.getD 0 0).toNat : Nat) : Int) != ((92 : Nat) : Int))), (6, .bool ((((l.getD 0 0).toNat : Nat) : Int) != ((92 : Nat) : Int)))]) (fun φ3 => []) (fun φ3 => []) s trivial (fun φ3 => by kernel_rfl) ?_
  intro φ3 w3 s
  rw [nat_neq (a := ((l.getD 0 0).toNat)) (b := 92)]
  refine ops_done (by kernel_rfl) ?_
  rcases Bool.eq_false_or_eq_true (decide (((l.getD 0 0).toNat) ≠ 92)) with hc4 | hc4
  ·
    rw [hc4]
    refine cond_true_rule (b := true) (by kernel_rfl) rfl ?_
    refine wp_seq ?_
    refine region_rule ?_
    refine ops_rule (C := []) [] [] 1 [] 0 (fun φ5 => [(7, .string ⟨(l).toArray⟩)]) (fun φ5 => []) (fun φ5 => []) s trivial (fun φ5 => by kernel_rfl) ?_
    intro φ5 w5 s
    refine sem_rule (Instr.index 9 (.string ⟨(l).toArray⟩) (.int .i64 ((0 : Nat) : Int))) (some 8) (.int .u8 (((l.getD 0 0).toNat : Nat) : Int)) (by kernel_rfl) (run_idxK (s := l) (i := 0) (by have hd1 := digP_lt (l.getD 1 0).toNat; have hd2 := digP_lt (l.getD 2 0).toNat; have hq0 := of_decide_eq_true hc4; (try simp only [List.length_drop, List.length_take, List.length_append, List.length_cons, List.length_nil]); omega)) ?_
    refine ops_rule (C := []) [] [] 1 [] 0 (fun φ6 => [(2, .int .u8 (((l.getD 0 0).toNat : Nat) : Int))]) (fun φ6 => []) (fun φ6 => []) s trivial (fun φ6 => by kernel_rfl) ?_
    intro φ6 w6 s
    refine ops_done (by kernel_rfl) ?_
    refine wp_ret ?_
    refine ret_rule (C := []) [] [] (.int .u8 (((l.getD 0 0).toNat : Nat) : Int)) [] [] s trivial (by kernel_rfl) ?_
    exact ⟨_, _, _, rfl, s, (congrArg (fun q : Nat => Value.int .u8 (q : Int)) (fs1 (by have q := hc4; simpa using q)))⟩
  ·
    rw [hc4]
    refine cond_false_rule (b := false) (by kernel_rfl) rfl ?_
    refine wp_seq ?_
    refine region_rule ?_
    refine ops_rule (C := []) [] [] 4 [] 0 (fun φ7 => [(13, .bool (decide (((l.length : Nat) : Int) < ((3 : Nat) : Int)))), (12, .bool (decide (((l.length : Nat) : Int) < ((3 : Nat) : Int)))), (11, .int .i64 ((l.length : Nat) : Int)), (10, .string ⟨(l).toArray⟩)]) (fun φ7 => []) (fun φ7 => []) s trivial (fun φ7 => by kernel_rfl) ?_
    intro φ7 w7 s
    rw [nat_lss (a := l.length) (b := 3)]
    rcases Bool.eq_false_or_eq_true (decide (l.length < 3)) with hc8 | hc8
    ·
      rw [hc8]
      refine ops_rule (C := []) [] [] 5 [] 0 (fun φ9 => [(9, .bool true), (17, .bool true), (16, undef), (15, undef), (14, undef)]) (fun φ9 => []) (fun φ9 => []) s trivial (fun φ9 => by kernel_rfl) ?_
      intro φ9 w9 s
      refine ops_done (by kernel_rfl) ?_
      refine cond_true_rule (b := true) (by kernel_rfl) rfl ?_
      refine wp_seq ?_
      refine region_rule ?_
      refine ops_rule (C := []) [] [] 1 [] 0 (fun φ10 => [(2, .int .u8 92)]) (fun φ10 => []) (fun φ10 => []) s trivial (fun φ10 => by kernel_rfl) ?_
      intro φ10 w10 s
      refine ops_done (by kernel_rfl) ?_
      refine wp_ret ?_
      refine ret_rule (C := []) [] [] (.int .u8 92) [] [] s trivial (by kernel_rfl) ?_
      exact ⟨_, _, _, rfl, s, (congrArg (fun q : Nat => Value.int .u8 (q : Int)) (fs2 (by have q := hc4; simpa using q) (.inl (of_decide_eq_true hc8))))⟩
    ·
      rw [hc8]
      refine ops_rule (C := []) [] [] 1 [] 0 (fun φ11 => [(14, .string ⟨(l).toArray⟩)]) (fun φ11 => []) (fun φ11 => []) s trivial (fun φ11 => by kernel_rfl) ?_
      intro φ11 w11 s
      refine sem_rule (Instr.index 9 (.string ⟨(l).toArray⟩) (.int .i64 ((1 : Nat) : Int))) (some 15) (.int .u8 (((l.getD 1 0).toNat : Nat) : Int)) (by kernel_rfl) (run_idxK (s := l) (i := 1) (by have hd1 := digP_lt (l.getD 1 0).toNat; have hd2 := digP_lt (l.getD 2 0).toNat; have hq0 := of_decide_eq_false hc4; have hq1 := of_decide_eq_false hc8; (try simp only [List.length_drop, List.length_take, List.length_append, List.length_cons, List.length_nil]); omega)) ?_
      refine ops_rule (C := []) [] [] 3 [] 0 (fun φ12 => [(9, .bool ((((l.getD 1 0).toNat : Nat) : Int) == ((92 : Nat) : Int))), (17, .bool ((((l.getD 1 0).toNat : Nat) : Int) == ((92 : Nat) : Int))), (16, .bool ((((l.getD 1 0).toNat : Nat) : Int) == ((92 : Nat) : Int)))]) (fun φ12 => []) (fun φ12 => []) s trivial (fun φ12 => by kernel_rfl) ?_
      intro φ12 w12 s
      rw [nat_eql (a := ((l.getD 1 0).toNat)) (b := 92)]
      refine ops_done (by kernel_rfl) ?_
      rcases Bool.eq_false_or_eq_true (decide (((l.getD 1 0).toNat) = 92)) with hc13 | hc13
      ·
        rw [hc13]
        refine cond_true_rule (b := true) (by kernel_rfl) rfl ?_
        refine wp_seq ?_
        refine region_rule ?_
        refine ops_rule (C := []) [] [] 1 [] 0 (fun φ14 => [(2, .int .u8 92)]) (fun φ14 => []) (fun φ14 => []) s trivial (fun φ14 => by kernel_rfl) ?_
        intro φ14 w14 s
        refine ops_done (by kernel_rfl) ?_
        refine wp_ret ?_
        refine ret_rule (C := []) [] [] (.int .u8 92) [] [] s trivial (by kernel_rfl) ?_
        exact ⟨_, _, _, rfl, s, (congrArg (fun q : Nat => Value.int .u8 (q : Int)) (fs2 (by have q := hc4; simpa using q) (.inr (of_decide_eq_true hc13))))⟩
      ·
        rw [hc13]
        refine cond_false_rule (b := false) (by kernel_rfl) rfl ?_
        refine wp_skip ?_
        refine wp_seq ?_
        refine draw_rule (C := []) ⟨(fun φ15 xs15 => [.look 0 [] [], .ran (Instr.index 9 (.string ⟨(l).toArray⟩) (.int .i64 ((1 : Nat) : Int))), .call 93 #[.int .u8 (((l.getD 1 0).toNat : Nat) : Int)], .ran (binOp .shl 5 (.int .u8 ((digP ((l.getD 1 0).toNat) : Nat) : Int)) (.int .u64 ((4 : Nat) : Int))), .look 0 [] [], .ran (Instr.index 9 (.string ⟨(l).toArray⟩) (.int .i64 ((2 : Nat) : Int))), .call 93 #[.int .u8 (((l.getD 2 0).toNat : Nat) : Int)], .ran (binOp .or 5 (.int .u8 ((bshl 8 (digP ((l.getD 1 0).toNat)) 4 : Nat) : Int)) (.int .u8 ((digP ((l.getD 2 0).toNat) : Nat) : Int))), .look 0 [] []]), (fun φ15 xs15 => [.string ⟨(l).toArray⟩, .int .u8 (((l.getD 1 0).toNat : Nat) : Int), .int .u8 ((digP ((l.getD 1 0).toNat) : Nat) : Int), .int .u8 ((bshl 8 (digP ((l.getD 1 0).toNat)) 4 : Nat) : Int), .string ⟨(l).toArray⟩, .int .u8 (((l.getD 2 0).toNat : Nat) : Int), .int .u8 ((digP ((l.getD 2 0).toNat) : Nat) : Int), .int .u8 ((bor 8 (bshl 8 (digP ((l.getD 1 0).toNat)) 4) (digP ((l.getD 2 0).toNat)) : Nat) : Int), .int .u8 ((bor 8 (bshl 8 (digP ((l.getD 1 0).toNat)) 4) (digP ((l.getD 2 0).toNat)) : Nat) : Int)]), (fun φ15 xs15 => [[]]), (fun φ15 xs15 => [[default, default, default, default, default, default, default, default, default]]), [], [1, 6, 3, 6, 1, 6, 3, 6, 1]⟩ (fun j => ([MP.any, MP.any, MP.any, MP.any, MP.any, MP.any, MP.any, MP.any, MP.any] : List MP).getD j MP.any) [2, 6] [] [1, 3, 5, 7] (fun φ15 xs15 => []) (fun φ15 xs15 => [(18, .string ⟨(l).toArray⟩), (19, .int .u8 (((l.getD 1 0).toNat : Nat) : Int)), (20, .int .u8 ((digP ((l.getD 1 0).toNat) : Nat) : Int)), (21, .int .u8 ((bshl 8 (digP ((l.getD 1 0).toNat)) 4 : Nat) : Int)), (22, .string ⟨(l).toArray⟩), (23, .int .u8 (((l.getD 2 0).toNat : Nat) : Int)), (24, .int .u8 ((digP ((l.getD 2 0).toNat) : Nat) : Int)), (25, .int .u8 ((bor 8 (bshl 8 (digP ((l.getD 1 0).toNat)) 4) (digP ((l.getD 2 0).toNat)) : Nat) : Int)), (2, .int .u8 ((bor 8 (bshl 8 (digP ((l.getD 1 0).toNat)) 4) (digP ((l.getD 2 0).toNat)) : Nat) : Int))]) (fun φ15 xs15 => []) s trivial (by kernel_rfl) (by kernel_rfl) (fun _ _ => by kernel_rfl) (fun _ _ => by kernel_rfl) ⟨fun _ _ => by kernel_rfl, fun _ _ => by kernel_rfl, fun _ _ => by kernel_rfl, fun _ _ => by kernel_rfl⟩ (fun _ _ _ => by kernel_rfl) (fun _ _ => by kernel_rfl) (fun _ _ => by kernel_rfl) (fun _ _ => by kernel_rfl) (fun _ _ => by kernel_rfl) (fun _ _ => by kernel_rfl) trivial ⟨kcast (A := ∀ (φ15 : Nat → Nat) (xs15 : Xs) (J : IM) (w : World), I.Le J → J.Sub w → ((Instr.index 9 (.string ⟨(l).toArray⟩) (.int .i64 ((1 : Nat) : Int))) : Sem Value).run Tryd.prog w = .ok (.int .u8 (((l.getD 1 0).toNat : Nat) : Int)) w) (by kernel_rfl) (fun φ15 xs15 J w hJ hS => run_idxK (s := l) (i := 1) (by have hd1 := digP_lt (l.getD 1 0).toNat; have hd2 := digP_lt (l.getD 2 0).toNat; have hq0 := of_decide_eq_false hc4; have hq1 := of_decide_eq_false hc8; have hq2 := of_decide_eq_false hc13; (try simp only [List.length_drop, List.length_take, List.length_append, List.length_cons, List.length_nil]); omega)), ⟨kcast (A := ∀ (φ15 : Nat → Nat) (xs15 : Xs) (J : IM) (w : World), I.Le J → J.Sub w → ((binOp .shl 5 (.int .u8 ((digP ((l.getD 1 0).toNat) : Nat) : Int)) (.int .u64 ((4 : Nat) : Int))) : Sem Value).run Tryd.prog w = .ok (.int .u8 ((bshl 8 (digP ((l.getD 1 0).toNat)) 4 : Nat) : Int)) w) (by kernel_rfl) (fun φ15 xs15 J w hJ hS => run_shlU (.inl rfl)), ⟨kcast (A := ∀ (φ15 : Nat → Nat) (xs15 : Xs) (J : IM) (w : World), I.Le J → J.Sub w → ((Instr.index 9 (.string ⟨(l).toArray⟩) (.int .i64 ((2 : Nat) : Int))) : Sem Value).run Tryd.prog w = .ok (.int .u8 (((l.getD 2 0).toNat : Nat) : Int)) w) (by kernel_rfl) (fun φ15 xs15 J w hJ hS => run_idxK (s := l) (i := 2) (by have hd1 := digP_lt (l.getD 1 0).toNat; have hd2 := digP_lt (l.getD 2 0).toNat; have hq0 := of_decide_eq_false hc4; have hq1 := of_decide_eq_false hc8; have hq2 := of_decide_eq_false hc13; (try simp only [List.length_drop, List.length_take, List.length_append, List.length_cons, List.length_nil]); omega)), ⟨kcast (A := ∀ (φ15 : Nat → Nat) (xs15 : Xs) (J : IM) (w : World), I.Le J → J.Sub w → ((binOp .or 5 (.int .u8 ((bshl 8 (digP ((l.getD 1 0).toNat)) 4 : Nat) : Int)) (.int .u8 ((digP ((l.getD 2 0).toNat) : Nat) : Int))) : Sem Value).run Tryd.prog w = .ok (.int .u8 ((bor 8 (bshl 8 (digP ((l.getD 1 0).toNat)) 4) (digP ((l.getD 2 0).toNat)) : Nat) : Int)) w) (by kernel_rfl) (fun φ15 xs15 J w hJ hS => run_bit8.2.2.1), trivial⟩⟩⟩⟩ (by kernel_rfl) ⟨?c15_2, ?c15_6, trivial⟩ ?k15
        case c15_2 =>
          refine kcast (A := ∀ (φ15 : Nat → Nat) (xs15 : Xs) (J2_15 : IM), I.Le J2_15 → Fun Tryd.prog 93 #[.int .u8 (((l.getD 1 0).toNat : Nat) : Int)] J2_15 (fun v J' => ∃ x : UX, v = .int .u8 ((digP ((l.getD 1 0).toNat) : Nat) : Int) ∧ (True))) (by kernel_rfl) ?_
          intro φ15 xs15 J2_15 leJ
          exact Fun.mono (digit_c (c := (l.getD 1 0).toNat) (byte_lt _)) (fun v J' _ h => ⟨UX.d, h, trivial⟩)
        case c15_6 =>
          refine kcast (A := ∀ (φ15 : Nat → Nat) (xs15 : Xs) (J6_15 : IM), I.Le J6_15 → (True) → Fun Tryd.prog 93 #[.int .u8 (((l.getD 2 0).toNat : Nat) : Int)] J6_15 (fun v J' => ∃ x : UX, v = .int .u8 ((digP ((l.getD 2 0).toNat) : Nat) : Int) ∧ (True))) (by kernel_rfl) ?_
          intro φ15 xs15 J6_15 leJ
          rintro _
          exact Fun.mono (digit_c (c := (l.getD 2 0).toNat) (byte_lt _)) (fun v J' _ h => ⟨UX.d, h, trivial⟩)
        case k15 =>
          rintro φ15 xs15 I15 w15 le15 s _ _
          refine wp_ret ?_
          refine ret_rule (C := []) [] [] (.int .u8 ((bor 8 (bshl 8 (digP ((l.getD 1 0).toNat)) 4) (digP ((l.getD 2 0).toNat)) : Nat) : Int)) [] [] s trivial (by kernel_rfl) ?_
          exact ⟨_, _, _, rfl, s, (congrArg (fun q : Nat => Value.int .u8 (q : Int)) (fs3 (by have q := hc4; simpa using q) (of_decide_eq_false hc8) (of_decide_eq_false hc13)))⟩

set_option maxHeartbeats 1000000 in
theorem hasPrefix_c {I : IM} {l p : List UInt8} (hn : l.length ≤ 9223372036854775807) : Fun Tryd.prog 113 #[.string ⟨(l).toArray⟩, .string ⟨(p).toArray⟩] I (fun v J => v = .bool (preB l p)) := by
  refine enter_rule 18 [(0, .string ⟨(l).toArray⟩), (1, .string ⟨(p).toArray⟩)] Tryd.func113 rfl (by kernel_rfl) ?_
  intro w s
  refine wp_seq ?_
  refine region_rule ?_
  refine ops_rule (C := []) [] [] 1 [] 0 (fun φ1 => [(4, .bool false)]) (fun φ1 => []) (fun φ1 => []) s trivial (fun φ1 => by kernel_rfl) ?_
  intro φ1 w1 s
  refine ops_done (by kernel_rfl) ?_
  refine wp_seq ?_
  refine region_rule ?_
  refine ops_rule (C := []) [] [] 6 [] 0 (fun φ2 => [(10, .bool (decide (((l.length : Nat) : Int) ≥ ((p.length : Nat) : Int)))), (9, .bool (decide (((l.length : Nat) : Int) ≥ ((p.length : Nat) : Int)))), (8, .int .i64 ((p.length : Nat) : Int)), (7, .string ⟨(p).toArray⟩), (6, .int .i64 ((l.length : Nat) : Int)), (5, .string ⟨(l).toArray⟩)]) (fun φ2 => []) (fun φ2 => []) s trivial (fun φ2 => by kernel_rfl) ?_
  intro φ2 w2 s
  rw [nat_geq (a := l.length) (b := p.length)]
  rcases Bool.eq_false_or_eq_true (decide (p.length ≤ l.length)) with hc3 | hc3
  ·
    rw [hc3]
    refine ops_rule (C := []) [] [] 3 [] 0 (fun φ4 => [(13, .int .i64 ((p.length : Nat) : Int)), (12, .string ⟨(p).toArray⟩), (11, .string ⟨(l).toArray⟩)]) (fun φ4 => []) (fun φ4 => []) s trivial (fun φ4 => by kernel_rfl) ?_
    intro φ4 w4 s
    refine sem_rule (Instr.sliceAt 9 (.string ⟨(l).toArray⟩) none (some (.int .i64 ((p.length : Nat) : Int))) none) (some 14) (.string ⟨((l.take p.length)).toArray⟩) (by kernel_rfl) (run_takeS (s := l) (hi := p.length) (by  have hq0 := of_decide_eq_true hc3; (try simp only [List.length_drop, List.length_take, List.length_append, List.length_cons, List.length_nil]); omega)) ?_
    refine ops_rule (C := []) [] [] 1 [] 0 (fun φ5 => [(15, .string ⟨(p).toArray⟩)]) (fun φ5 => []) (fun φ5 => []) s trivial (fun φ5 => by kernel_rfl) ?_
    intro φ5 w5 s
    refine sem_rule (binOp .eql 9 (.string ⟨((l.take p.length)).toArray⟩) (.string ⟨(p).toArray⟩)) (some 16) (.bool (decide ((l.take p.length) = p))) (by kernel_rfl) (run_eqS (x := (l.take p.length)) (y := p)) ?_
    refine ops_rule (C := []) [] [] 2 [] 0 (fun φ6 => [(4, .bool (decide ((l.take p.length) = p))), (17, .bool (decide ((l.take p.length) = p)))]) (fun φ6 => []) (fun φ6 => []) s trivial (fun φ6 => by kernel_rfl) ?_
    intro φ6 w6 s
    refine ops_done (by kernel_rfl) ?_
    refine wp_ret ?_
    refine ret_rule (C := []) [] [] (.bool (decide ((l.take p.length) = p))) [] [] s trivial (by kernel_rfl) ?_
    exact ⟨_, _, _, rfl, s, (congrArg Value.bool (show _ = preB l p by unfold preB; rw [hc3]; rfl))⟩
  ·
    rw [hc3]
    refine ops_rule (C := []) [] [] 8 [] 0 (fun φ7 => [(4, .bool false), (17, .bool false), (16, undef), (15, undef), (14, undef), (13, undef), (12, undef), (11, undef)]) (fun φ7 => []) (fun φ7 => []) s trivial (fun φ7 => by kernel_rfl) ?_
    intro φ7 w7 s
    refine ops_done (by kernel_rfl) ?_
    refine wp_ret ?_
    refine ret_rule (C := []) [] [] (.bool false) [] [] s trivial (by kernel_rfl) ?_
    exact ⟨_, _, _, rfl, s, (congrArg Value.bool (pre_f1 (of_decide_eq_false hc3)).symm)⟩

set_option maxHeartbeats 1000000 in
theorem cut1_c {I : IM} {l p : List UInt8} (hn : l.length ≤ 9223372036854775807) : Fun Tryd.prog 94 #[.string ⟨(l).toArray⟩, .string ⟨(p).toArray⟩] I (fun v J => v = .tuple #[.string ⟨(cutS l p).toArray⟩, .bool (preB l p)]) := by
  refine enter_rule 15 [(0, .string ⟨(l).toArray⟩), (1, .string ⟨(p).toArray⟩)] Tryd.func94 rfl (by kernel_rfl) ?_
  intro w s
  refine wp_seq ?_
  refine region_rule ?_
  refine ops_rule (C := []) [] [] 2 [] 0 (fun φ1 => [(5, .bool false), (4, .string ⟨#[]⟩)]) (fun φ1 => []) (fun φ1 => []) s trivial (fun φ1 => by kernel_rfl) ?_
  intro φ1 w1 s
  refine ops_done (by kernel_rfl) ?_
  refine wp_seq ?_
  refine wp_seq ?_
  refine region_rule ?_
  refine ops_rule (C := []) [] [] 2 [] 0 (fun φ2 => [(7, .string ⟨(p).toArray⟩), (6, .string ⟨(l).toArray⟩)]) (fun φ2 => []) (fun φ2 => []) s trivial (fun φ2 => by kernel_rfl) ?_
  intro φ2 w2 s
  refine call_rule (some 8) s (hasPrefix_c (l := l) (p := p) hn) (by kernel_rfl) ?_
  intro v3 I3 w3 le3 h3 s
  obtain rfl := h3
  refine ops_rule (C := []) [] [] 1 [] 0 (fun φ4 => [(9, .bool (!(preB l p)))]) (fun φ4 => []) (fun φ4 => []) s trivial (fun φ4 => by kernel_rfl) ?_
  intro φ4 w4 s
  refine ops_done (by kernel_rfl) ?_
  rcases Bool.eq_false_or_eq_true (preB l p) with hc5 | hc5
  ·
    rw [hc5]
    refine cond_false_rule (b := false) (by kernel_rfl) rfl ?_
    refine wp_skip ?_
    refine wp_seq ?_
    refine region_rule ?_
    refine ops_rule (C := []) [] [] 3 [] 0 (fun φ6 => [(13, .int .i64 ((p.length : Nat) : Int)), (12, .string ⟨(p).toArray⟩), (11, .string ⟨(l).toArray⟩)]) (fun φ6 => []) (fun φ6 => []) s trivial (fun φ6 => by kernel_rfl) ?_
    intro φ6 w6 s
    refine sem_rule (Instr.sliceAt 9 (.string ⟨(l).toArray⟩) (some (.int .i64 ((p.length : Nat) : Int))) none none) (some 14) (.string ⟨((l.drop p.length)).toArray⟩) (by kernel_rfl) (run_dropStr (s := l) (lo := p.length) under9 (by have hpp := hc5; unfold preB at hpp; rw [Bool.and_eq_true] at hpp; have hpl := of_decide_eq_true hpp.1;  (try simp only [List.length_drop, List.length_take, List.length_append, List.length_cons, List.length_nil]); omega)) ?_
    refine ops_rule (C := []) [] [] 2 [] 0 (fun φ7 => [(5, .bool true), (4, .string ⟨((l.drop p.length)).toArray⟩)]) (fun φ7 => []) (fun φ7 => []) s trivial (fun φ7 => by kernel_rfl) ?_
    intro φ7 w7 s
    refine ops_done (by kernel_rfl) ?_
    refine wp_ret ?_
    refine ret_rule (C := []) [] [] (.tuple #[.string ⟨((l.drop p.length)).toArray⟩, .bool true]) [] [] s trivial (by kernel_rfl) ?_
    exact ⟨_, _, _, rfl, s, (by unfold cutS; rw [hc5]; rfl)⟩
  ·
    rw [hc5]
    refine cond_true_rule (b := true) (by kernel_rfl) rfl ?_
    refine wp_seq ?_
    refine region_rule ?_
    refine ops_rule (C := []) [] [] 3 [] 0 (fun φ8 => [(5, .bool false), (4, .string ⟨(l).toArray⟩), (10, .string ⟨(l).toArray⟩)]) (fun φ8 => []) (fun φ8 => []) s trivial (fun φ8 => by kernel_rfl) ?_
    intro φ8 w8 s
    refine ops_done (by kernel_rfl) ?_
    refine wp_ret ?_
    refine ret_rule (C := []) [] [] (.tuple #[.string ⟨(l).toArray⟩, .bool false]) [] [] s trivial (by kernel_rfl) ?_
    exact ⟨_, _, _, rfl, s, (by unfold cutS; rw [hc5]; rfl)⟩

set_option maxHeartbeats 1000000 in
theorem cutP_c {I : IM} {l p : List UInt8} (hn : l.length ≤ 9223372036854775807) : Fun Tryd.prog 62 #[.string ⟨(l).toArray⟩, .string ⟨(p).toArray⟩] I (fun v J => v = .tuple #[.string ⟨(cutS l p).toArray⟩, .bool (preB l p)]) := by
  refine enter_rule 11 [(0, .string ⟨(l).toArray⟩), (1, .string ⟨(p).toArray⟩)] Tryd.func62 rfl (by kernel_rfl) ?_
  intro w s
  refine wp_seq ?_
  refine region_rule ?_
  refine ops_rule (C := []) [] [] 2 [] 0 (fun φ1 => [(5, .bool false), (4, .string ⟨#[]⟩)]) (fun φ1 => []) (fun φ1 => []) s trivial (fun φ1 => by kernel_rfl) ?_
  intro φ1 w1 s
  refine ops_done (by kernel_rfl) ?_
  refine wp_seq ?_
  refine region_rule ?_
  refine ops_rule (C := []) [] [] 2 [] 0 (fun φ2 => [(7, .string ⟨(p).toArray⟩), (6, .string ⟨(l).toArray⟩)]) (fun φ2 => []) (fun φ2 => []) s trivial (fun φ2 => by kernel_rfl) ?_
  intro φ2 w2 s
  refine call_rule (some 8) s (cut1_c (l := l) (p := p) hn) (by kernel_rfl) ?_
  intro v3 I3 w3 le3 h3 s
  obtain rfl := h3
  refine ops_rule (C := []) [] [] 4 [] 0 (fun φ4 => [(5, .bool (preB l p)), (4, .string ⟨((cutS l p)).toArray⟩), (10, .bool (preB l p)), (9, .string ⟨((cutS l p)).toArray⟩)]) (fun φ4 => []) (fun φ4 => []) s trivial (fun φ4 => by kernel_rfl) ?_
  intro φ4 w4 s
  refine ops_done (by kernel_rfl) ?_
  refine wp_ret ?_
  refine ret_rule (C := []) [] [] (.tuple #[.string ⟨((cutS l p)).toArray⟩, .bool (preB l p)]) [] [] s trivial (by kernel_rfl) ?_
  exact ⟨_, _, _, rfl, s, rfl⟩

set_option maxHeartbeats 4000000 in
theorem unquote_c {I : IM} {l : List UInt8} (hn : l.length ≤ 1000000) : Fun Tryd.prog 30 #[.string ⟨(l).toArray⟩] I (fun v J => v = uqT (uqV l) (uqB l)) := by
  refine enter_rule 29 [(0, .string ⟨(l).toArray⟩)] Tryd.func30 rfl (by kernel_rfl) ?_
  intro w s
  have hs0 := s.sub
  refine wp_seq ?_
  refine region_rule ?_
  refine ops_rule (C := []) [] [] 2 [] 0 (fun φ1 => [(3, .bool false), (2, .string ⟨#[]⟩)]) (fun φ1 => []) (fun φ1 => []) s trivial (fun φ1 => by kernel_rfl) ?_
  intro φ1 w1 s
  refine ops_done (by kernel_rfl) ?_
  refine wp_seq ?_
  refine wp_seq ?_
  refine region_rule ?_
  refine ops_rule (C := []) [] [] 1 [] 0 (fun φ2 => [(8, .string ⟨(l).toArray⟩)]) (fun φ2 => []) (fun φ2 => []) s trivial (fun φ2 => by kernel_rfl) ?_
  intro φ2 w2 s
  refine sem_rule (binOp .eql 9 (.string ⟨(l).toArray⟩) (.string ⟨(([] : List UInt8)).toArray⟩)) (some 9) (.bool (decide (l = ([] : List UInt8)))) (by kernel_rfl) (run_eqS (x := l) (y := ([] : List UInt8))) ?_
  refine ops_done (by kernel_rfl) ?_
  rcases Bool.eq_false_or_eq_true (decide (l = ([] : List UInt8))) with hc3 | hc3
  ·
    rw [hc3]
    refine cond_true_rule (b := true) (by kernel_rfl) rfl ?_
    refine wp_seq ?_
    refine region_rule ?_
    refine ops_rule (C := []) [] [] 2 [] 0 (fun φ4 => [(3, .bool false), (2, .string ⟨#[]⟩)]) (fun φ4 => []) (fun φ4 => []) s trivial (fun φ4 => by kernel_rfl) ?_
    intro φ4 w4 s
    refine ops_done (by kernel_rfl) ?_
    refine wp_ret ?_
    refine ret_rule (C := []) [] [] (.tuple #[.string ⟨#[]⟩, .bool false]) [] [] s trivial (by kernel_rfl) ?_
    exact ⟨_, _, _, rfl, s, (uq_val (un_nil (of_decide_eq_true hc3)))⟩
  ·
    rw [hc3]
    refine cond_false_rule (b := false) (by kernel_rfl) rfl ?_
    refine wp_skip ?_
    refine wp_seq ?_
    refine wp_seq ?_
    refine region_rule ?_
    refine ops_rule (C := []) [] [] 1 [] 0 (fun φ5 => [(10, .string ⟨(l).toArray⟩)]) (fun φ5 => []) (fun φ5 => []) s trivial (fun φ5 => by kernel_rfl) ?_
    intro φ5 w5 s
    refine sem_rule (binOp .eql 9 (.string ⟨(l).toArray⟩) (.string ⟨(([92, 45] : List UInt8)).toArray⟩)) (some 11) (.bool (decide (l = ([92, 45] : List UInt8)))) (by kernel_rfl) (run_eqS (x := l) (y := ([92, 45] : List UInt8))) ?_
    refine ops_done (by kernel_rfl) ?_
    rcases Bool.eq_false_or_eq_true (decide (l = ([92, 45] : List UInt8))) with hc6 | hc6
    ·
      rw [hc6]
      refine cond_true_rule (b := true) (by kernel_rfl) rfl ?_
      refine wp_seq ?_
      refine region_rule ?_
      refine ops_rule (C := []) [] [] 2 [] 0 (fun φ7 => [(3, .bool true), (2, .string ⟨#[]⟩)]) (fun φ7 => []) (fun φ7 => []) s trivial (fun φ7 => by kernel_rfl) ?_
      intro φ7 w7 s
      refine ops_done (by kernel_rfl) ?_
      refine wp_ret ?_
      refine ret_rule (C := []) [] [] (.tuple #[.string ⟨#[]⟩, .bool true]) [] [] s trivial (by kernel_rfl) ?_
      exact ⟨_, _, _, rfl, s, (uq_val (un_dash (of_decide_eq_true hc6)))⟩
    ·
      rw [hc6]
      refine cond_false_rule (b := false) (by kernel_rfl) rfl ?_
      refine wp_skip ?_
      refine wp_seq ?_
      refine region_rule ?_
      refine ops_rule (C := []) [] [] 1 [] 1 (fun φ8 => [(4, .pointer (some ⟨(φ8 0), 0, none⟩))]) (fun φ8 => [((φ8 0), .cells #[.pointer none, .slice none 0 0] 100)]) (fun φ8 => []) s trivial (fun φ8 => by kernel_rfl) ?_
      intro φ8 w8 s
      refine ops_done (by kernel_rfl) ?_
      refine wp_seq ?_
      refine wp_block ?_
      have hle9 := IM.Le.refl I
      refine loop_rule (fun (x : List UInt8 × List UInt8 × Value × Value × List OB) => [(2, .string ⟨#[]⟩), (3, .bool false), (4, .pointer (some ⟨(φ8 0), 0, none⟩)), (0, .string ⟨(x.1).toArray⟩)]) (fun (x : List UInt8 × List UInt8 × Value × Value × List OB) => [((φ8 0), .cells #[x.2.2.1, x.2.2.2.1] 100)] ++ x.2.2.2.2) (fun m (x : List UInt8 × List UInt8 × Value × Value × List OB) J => IM.Le I J ∧ x.1.length ≤ m ∧ quoL x.2.1 ++ x.1 = l ∧ (x.2.2.1 = .pointer none ∨ x.2.2.1 = .pointer (some ⟨(φ8 0), 0, none⟩)) ∧ RowH 5 1 x.2.2.2.1 (x.2.1).length ((x.2.1).map bV) x.2.2.2.2) (l.length) (l, [], .pointer none, .slice none 0 0, []) s (by kernel_rfl) (List.Sublist.refl _) ⟨IM.Le.refl _, Nat.le_refl _, rfl, Or.inl rfl, row_nilB⟩ ?_
      rintro m10 ⟨r10, o10, p10, v10, F10⟩ I10 w10 ev10 s ⟨le10, hi10_0, hi10_1, hi10_2, hi10_3⟩
      try dsimp only at s hi10_0 hi10_1 hi10_2 hi10_3 ⊢
      replace hle9 := leMono le10 hle9
      refine wp_seq ?_
      refine wp_seq ?_
      refine region_rule ?_
      refine ops_rule (C := []) [((φ8 0), .cells #[p10, v10] 100)] F10 1 [] 0 (fun φ11 => [(12, .string ⟨(r10).toArray⟩)]) (fun φ11 => [((φ8 0), .cells #[p10, v10] 100)]) (fun φ11 => []) s trivial (fun φ11 => by kernel_rfl) ?_
      intro φ11 w11 s
      refine sem_rule (binOp .neq 9 (.string ⟨(r10).toArray⟩) (.string ⟨(([] : List UInt8)).toArray⟩)) (some 13) (.bool (!(decide (r10 = ([] : List UInt8))))) (by kernel_rfl) (run_neS (x := r10) (y := ([] : List UInt8))) ?_
      refine ops_done (by kernel_rfl) ?_
      rcases Bool.eq_false_or_eq_true (decide (r10 = ([] : List UInt8))) with hc12 | hc12
      ·
        rw [hc12]
        refine cond_false_rule (b := false) (by kernel_rfl) rfl ?_
        refine wp_exit ?_
        refine wp_seq ?_
        refine region_rule ?_
        refine callE_rule (v := .string ⟨(o10).toArray⟩) (some 28) s hs0 (b_str (H := [((φ8 0), .cells #[p10, v10] 100)]) (F := F10) (b := (φ8 0)) (p := p10) (v0 := v10) (l := o10) s (by simp) hi10_2 hi10_3) (by kernel_rfl) ?_
        intro w13 s
        have hle9 := IM.Le.refl I
        refine ops_rule (C := []) [] [] 2 [] 0 (fun φ14 => [(3, .bool true), (2, .string ⟨(o10).toArray⟩)]) (fun φ14 => []) (fun φ14 => []) s trivial (fun φ14 => by kernel_rfl) ?_
        intro φ14 w14 s
        refine ops_done (by kernel_rfl) ?_
        refine wp_ret ?_
        refine ret_rule (C := []) [] [] (.tuple #[.string ⟨(o10).toArray⟩, .bool true]) [] [] s trivial (by kernel_rfl) ?_
        exact ⟨_, _, _, rfl, s, (uq_val (un_end (of_decide_eq_false hc3) hi10_1 (of_decide_eq_true hc12)))⟩
      ·
        rw [hc12]
        refine cond_true_rule (b := true) (by kernel_rfl) rfl ?_
        refine wp_skip ?_
        refine wp_block ?_
        refine wp_seq ?_
        refine region_rule ?_
        refine ops_rule (C := []) [((φ8 0), .cells #[p10, v10] 100)] F10 1 [] 0 (fun φ15 => [(14, .string ⟨(r10).toArray⟩)]) (fun φ15 => [((φ8 0), .cells #[p10, v10] 100)]) (fun φ15 => []) s trivial (fun φ15 => by kernel_rfl) ?_
        intro φ15 w15 s
        refine call_rule (some 15) s (first_c (l := r10) (by have h7 := congrArg List.length hi10_1; rw [List.length_append] at h7; omega) (List.length_pos_iff.2 (of_decide_eq_false hc12))) (by kernel_rfl) ?_
        intro v16 I16 w16 le16 h16 s
        replace hle9 := leMono le16 hle9
        obtain rfl := h16
        refine ops_rule (C := []) [((φ8 0), .cells #[p10, v10] 100)] F10 1 [] 0 (fun φ17 => [(5, .int .u8 ((fstP r10 : Nat) : Int))]) (fun φ17 => [((φ8 0), .cells #[p10, v10] 100)]) (fun φ17 => []) s trivial (fun φ17 => by kernel_rfl) ?_
        intro φ17 w17 s
        refine ops_done (by kernel_rfl) ?_
        refine wp_seq ?_
        refine region_rule ?_
        refine ops_rule (C := []) [((φ8 0), .cells #[p10, v10] 100)] F10 2 [] 0 (fun φ18 => [(18, .int .u8 ((fstP r10 : Nat) : Int)), (17, .string ⟨(r10).toArray⟩)]) (fun φ18 => [((φ8 0), .cells #[p10, v10] 100)]) (fun φ18 => []) s trivial (fun φ18 => by kernel_rfl) ?_
        intro φ18 w18 s
        refine call_rule (some 19) s (quoted_c (c := fstP r10) (fstP_lt _)) (by kernel_rfl) ?_
        intro v19 I19 w19 le19 h19 s
        replace hle9 := leMono le19 hle9
        obtain rfl := h19
        refine call_rule (some 20) s (cutP_c (l := r10) (p := (quo (fstP r10))) (by have h7 := congrArg List.length hi10_1; rw [List.length_append] at h7; omega)) (by kernel_rfl) ?_
        intro v20 I20 w20 le20 h20 s
        replace hle9 := leMono le20 hle9
        obtain rfl := h20
        refine ops_rule (C := []) [((φ8 0), .cells #[p10, v10] 100)] F10 5 [] 0 (fun φ21 => [(7, .bool (preB r10 (quo (fstP r10)))), (6, .string ⟨((cutS r10 (quo (fstP r10)))).toArray⟩), (22, .bool (preB r10 (quo (fstP r10)))), (21, .string ⟨((cutS r10 (quo (fstP r10)))).toArray⟩), (16, .tuple #[.string ⟨((cutS r10 (quo (fstP r10)))).toArray⟩, .bool (preB r10 (quo (fstP r10)))])]) (fun φ21 => [((φ8 0), .cells #[p10, v10] 100)]) (fun φ21 => []) s trivial (fun φ21 => by kernel_rfl) ?_
        intro φ21 w21 s
        refine ops_done (by kernel_rfl) ?_
        refine wp_seq ?_
        refine wp_seq ?_
        refine region_rule ?_
        refine ops_rule (C := []) [((φ8 0), .cells #[p10, v10] 100)] F10 2 [] 0 (fun φ22 => [(24, .bool (!(preB r10 (quo (fstP r10))))), (23, .bool (preB r10 (quo (fstP r10))))]) (fun φ22 => [((φ8 0), .cells #[p10, v10] 100)]) (fun φ22 => []) s trivial (fun φ22 => by kernel_rfl) ?_
        intro φ22 w22 s
        refine ops_done (by kernel_rfl) ?_
        rcases Bool.eq_false_or_eq_true (preB r10 (quo (fstP r10))) with hc23 | hc23
        ·
          rw [hc23]
          refine cond_false_rule (b := false) (by kernel_rfl) rfl ?_
          refine wp_skip ?_
          refine wp_seq ?_
          refine region_rule ?_
          refine ops_rule (C := []) [((φ8 0), .cells #[p10, v10] 100)] F10 1 [] 0 (fun φ24 => [(25, .int .u8 ((fstP r10 : Nat) : Int))]) (fun φ24 => [((φ8 0), .cells #[p10, v10] 100)]) (fun φ24 => []) s trivial (fun φ24 => by kernel_rfl) ?_
          intro φ24 w24 s
          refine callW_rule (b := (φ8 0)) (L := (o10 ++ [UInt8.ofNat (fstP r10)])) (some 26) s hs0 (wr_byte (H := [((φ8 0), .cells #[p10, v10] 100)]) (F := F10) (b := (φ8 0)) (p := p10) (v0 := v10) (l := o10) (c := fstP r10) s (by simp) hi10_2 hi10_3 (by have h7 := out_le hi10_1; omega) (fstP_lt _)) (by kernel_rfl) ?_
          intro v25 w25 F25 hr25 s
          have hle9 := IM.Le.refl I
          refine ops_done (by kernel_rfl) ?_
          refine region_rule ?_
          refine ops_rule (C := []) [((φ8 0), .cells #[.pointer (some ⟨(φ8 0), 0, none⟩), v25] 100)] F25 2 [] 0 (fun φ26 => [(0, .string ⟨((cutS r10 (quo (fstP r10)))).toArray⟩), (27, .string ⟨((cutS r10 (quo (fstP r10)))).toArray⟩)]) (fun φ26 => [((φ8 0), .cells #[.pointer (some ⟨(φ8 0), 0, none⟩), v25] 100)]) (fun φ26 => []) s trivial (fun φ26 => by kernel_rfl) ?_
          intro φ26 w26 s
          refine ops_done (by kernel_rfl) ?_
          have hlt9 := cut_lt hc23
          exact ⟨⟨m10 - 1, ((cutS r10 (quo (fstP r10))), (o10 ++ [UInt8.ofNat (fstP r10)]), .pointer (some ⟨(φ8 0), 0, none⟩), v25, F25), _, _, _, by omega, rfl, s, (List.Sublist.append (List.Sublist.cons₂ _ List.Sublist.slnil) (List.Sublist.refl _)), by kernel_rfl, hle9, by show (cutS r10 (quo (fstP r10))).length ≤ m10 - 1; omega, un_go hi10_1 hc23, Or.inr rfl, hr25⟩⟩
        ·
          rw [hc23]
          refine cond_true_rule (b := true) (by kernel_rfl) rfl ?_
          refine wp_seq ?_
          refine region_rule ?_
          refine ops_rule (C := []) [((φ8 0), .cells #[p10, v10] 100)] F10 2 [] 0 (fun φ27 => [(3, .bool false), (2, .string ⟨#[]⟩)]) (fun φ27 => [((φ8 0), .cells #[p10, v10] 100)]) (fun φ27 => []) s trivial (fun φ27 => by kernel_rfl) ?_
          intro φ27 w27 s
          refine ops_done (by kernel_rfl) ?_
          refine wp_ret ?_
          refine ret_rule (C := []) [((φ8 0), .cells #[p10, v10] 100)] F10 (.tuple #[.string ⟨#[]⟩, .bool false]) [] [] s trivial (by kernel_rfl) ?_
          exact ⟨_, _, _, rfl, s, (uq_val (un_no (of_decide_eq_false hc6) hi10_1 (of_decide_eq_false hc12) hc23))⟩

end Go.Proofs.YtgmigcmhnmmdkaaDoor

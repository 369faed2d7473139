/- Signs are counted and looked at: the document's; the program's Runes. -/
import Derived.Test.YtgmigcmhnmmdkaaDoorTjT2
set_option linter.all false
set_option maxRecDepth 100000
namespace Go.Proofs.YtgmigcmhnmmdkaaDoor
open Go.RowKit Go.Sep
attribute [local irreducible] Go.wpList Go.Code.wp

set_option maxHeartbeats 1000000 in
theorem few_c {I : IM} {l : List UInt8} (hn : l.length ≤ 9223372036854775807) : Fun Tryd.prog 22 #[.string ⟨(l).toArray⟩] I (fun v J => v = .string ⟨(l.take 120).toArray⟩) := by
  refine enter_rule 8 [(0, .string ⟨(l).toArray⟩)] Tryd.func22 rfl (by kernel_rfl) ?_
  intro w s
  refine wp_seq ?_
  refine region_rule ?_
  refine ops_rule (C := []) [] [] 1 [] 0 (fun φ1 => [(2, .string ⟨#[]⟩)]) (fun φ1 => []) (fun φ1 => []) s trivial (fun φ1 => by kernel_rfl) ?_
  intro φ1 w1 s
  refine ops_done (by kernel_rfl) ?_
  refine wp_seq ?_
  refine region_rule ?_
  refine ops_rule (C := []) [] [] 4 [] 0 (fun φ2 => [(6, .int .i64 (if ((120 : Nat) : Int) < ((l.length : Nat) : Int) then ((120 : Nat) : Int) else ((l.length : Nat) : Int))), (5, .int .i64 ((l.length : Nat) : Int)), (4, .string ⟨(l).toArray⟩), (3, .string ⟨(l).toArray⟩)]) (fun φ2 => []) (fun φ2 => []) s trivial (fun φ2 => by kernel_rfl) ?_
  intro φ2 w2 s
  rw [nat_min (a := l.length) (b := 120)]
  refine sem_rule (Instr.sliceAt 9 (.string ⟨(l).toArray⟩) none (some (.int .i64 ((min l.length 120 : Nat) : Int))) none) (some 7) (.string ⟨((l.take (min l.length 120))).toArray⟩) (by kernel_rfl) (run_takeS (s := l) (hi := min l.length 120) (by   (try simp only [List.length_drop, List.length_take, List.length_append, List.length_cons, List.length_nil]); omega)) ?_
  refine ops_rule (C := []) [] [] 1 [] 0 (fun φ3 => [(2, .string ⟨((l.take (min l.length 120))).toArray⟩)]) (fun φ3 => []) (fun φ3 => []) s trivial (fun φ3 => by kernel_rfl) ?_
  intro φ3 w3 s
  refine ops_done (by kernel_rfl) ?_
  refine wp_ret ?_
  refine ret_rule (C := []) [] [] (.string ⟨((l.take (min l.length 120))).toArray⟩) [] [] s trivial (by kernel_rfl) ?_
  exact ⟨_, _, _, rfl, s, (congrArg (fun q : List UInt8 => Value.string ⟨q.toArray⟩) take_min)⟩

theorem ck_long {l : List UInt8} {mi : Int} (h : ((l.length : Int) > mi)) : Value.int .i64 9 = .int .i64 ((ckE l mi : Nat) : Int) := by
  unfold ckE; rw [decide_eq_true h]; rfl
theorem ck_bad {l : List UInt8} {mi : Int} (h : ¬ ((l.length : Int) > mi)) (e : okS l = false) : Value.int .i64 7 = .int .i64 ((ckE l mi : Nat) : Int) := by
  unfold ckE; rw [decide_eq_false h, e]; rfl
theorem ck_good {l : List UInt8} {mi : Int} (h : ¬ ((l.length : Int) > mi)) (e : okS l = true) : Value.int .i64 0 = .int .i64 ((ckE l mi : Nat) : Int) := by
  unfold ckE; rw [decide_eq_false h, e]; rfl

set_option maxHeartbeats 2000000 in
theorem runes_c {I : IM} {l : List UInt8} (hn : l.length ≤ 1000000) : Fun Tryd.prog 25 #[.string ⟨(l).toArray⟩] I (fun v J => v = .int .i64 ((nR l : Nat) : Int)) := by
  refine enter_rule 11 [(0, .string ⟨(l).toArray⟩)] Tryd.func25 rfl (by kernel_rfl) ?_
  intro w s
  refine wp_seq ?_
  refine region_rule ?_
  refine ops_rule (C := []) [] [] 1 [] 0 (fun φ1 => [(2, .int .i64 0)]) (fun φ1 => []) (fun φ1 => []) s trivial (fun φ1 => by kernel_rfl) ?_
  intro φ1 w1 s
  refine ops_done (by kernel_rfl) ?_
  refine wp_seq ?_
  refine region_rule ?_
  refine ops_rule (C := []) [] [] 1 [] 0 (fun φ2 => [(3, .int .i64 0)]) (fun φ2 => []) (fun φ2 => []) s trivial (fun φ2 => by kernel_rfl) ?_
  intro φ2 w2 s
  refine ops_done (by kernel_rfl) ?_
  refine wp_seq ?_
  refine wp_seq ?_
  refine region_rule ?_
  refine ops_rule (C := []) [] [] 1 [] 0 (fun φ3 => [(4, .string ⟨(l).toArray⟩)]) (fun φ3 => []) (fun φ3 => []) s trivial (fun φ3 => by kernel_rfl) ?_
  intro φ3 w3 s
  obtain ⟨k4, w4, hr4, s⟩ := range_new (H := []) s ⟨(l).toArray⟩
  refine sem_rule (Instr.range 9 (.string ⟨(l).toArray⟩)) (some 5) (.pointer (some ⟨k4, 0, none⟩)) (by kernel_rfl) hr4 ?_
  refine ops_done (by kernel_rfl) ?_
  refine wp_block ?_
  have hle5 := IM.Le.refl I
  refine loop_rule (fun (x : Nat × Nat) => [(0, .string ⟨(l).toArray⟩), (2, .int .i64 0), (5, .pointer (some ⟨k4, 0, none⟩)), (3, .int .i64 ((x.1 : Nat) : Int))]) (fun (x : Nat × Nat) => [(k4, .stringIter ⟨(l).toArray⟩ x.2)]) (fun m (x : Nat × Nat) J => IM.Le I J ∧ l.length ≤ x.2 + m ∧ x.1 + (steps (l.drop x.2)).length = nR l ∧ x.1 ≤ x.2) (l.length) (0, 0) s (by kernel_rfl) (List.Sublist.cons₂ _ List.Sublist.slnil) ⟨IM.Le.refl _, by omega, Nat.zero_add _, Nat.le_refl _⟩ ?_
  rintro m6 ⟨q6, p6⟩ I6 w6 ev6 s ⟨le6, hi6_0, hi6_1, hi6_2⟩
  try dsimp only at s hi6_0 hi6_1 hi6_2 ⊢
  replace hle5 := leMono le6 hle5
  refine wp_seq ?_
  refine region_rule ?_
  rcases Bool.eq_false_or_eq_true (decide (p6 < l.length)) with hc7 | hc7
  ·
    obtain ⟨w8, hr8, s⟩ := next_own (k := k4) (pos := p6) (l := l) (ty := 0) s (of_decide_eq_true hc7)
    refine sem_rule (Instr.next (.pointer (some ⟨k4, 0, none⟩)) true 0) (some 6) (.tuple #[.bool true, .int .i64 ((p6 : Nat) : Int), .int .i32 ((dR l p6 : Nat) : Int)]) (by kernel_rfl) hr8 ?_
    refine ops_rule (C := []) [(k4, .stringIter ⟨(l).toArray⟩ (p6 + dW l p6))] [] 1 [] 0 (fun φ9 => [(7, .bool true)]) (fun φ9 => [(k4, .stringIter ⟨(l).toArray⟩ (p6 + dW l p6))]) (fun φ9 => []) s trivial (fun φ9 => by kernel_rfl) ?_
    intro φ9 w9 s
    refine ops_done (by kernel_rfl) ?_
    refine wp_seq ?_
    refine cond_true_rule (b := true) (by kernel_rfl) rfl ?_
    refine wp_skip ?_
    refine wp_block ?_
    refine region_rule ?_
    refine ops_rule (C := []) [(k4, .stringIter ⟨(l).toArray⟩ (p6 + dW l p6))] [] 3 [] 0 (fun φ10 => [(3, .int .i64 (IntKind.wrap .i64 (((q6 : Nat) : Int) + ((1 : Nat) : Int)))), (9, .int .i64 (IntKind.wrap .i64 (((q6 : Nat) : Int) + ((1 : Nat) : Int)))), (8, .int .i64 ((q6 : Nat) : Int))]) (fun φ10 => [(k4, .stringIter ⟨(l).toArray⟩ (p6 + dW l p6))]) (fun φ10 => []) s trivial (fun φ10 => by kernel_rfl) ?_
    intro φ10 w10 s
    rw [nat_addI (a := q6) (b := 1) (by have hz0 := hi6_2; have hz2 := dW_pos l p6; have hz3 := dW_le (of_decide_eq_true hc7);  have hq0 := of_decide_eq_true hc7; omega)]
    refine ops_done (by kernel_rfl) ?_
    have hq9 := of_decide_eq_true hc7
    have hw9 := dW_pos l p6
    have hv9 := dW_le hq9
    exact ⟨⟨m6 - 1, (q6 + 1, p6 + dW l p6), _, _, _, by omega, rfl, s, (List.Sublist.cons₂ _ List.Sublist.slnil), by kernel_rfl, hle5, by show l.length ≤ p6 + dW l p6 + (m6 - 1); omega, by have e9 := hi6_1; rw [steps_at hq9, List.length_cons] at e9; show q6 + 1 + (steps (l.drop (p6 + dW l p6))).length = nR l; omega, by show q6 + 1 ≤ p6 + dW l p6; have h8 := hi6_2; omega⟩⟩
  ·
    refine sem_rule (Instr.next (.pointer (some ⟨k4, 0, none⟩)) true 0) (some 6) (.tuple #[.bool false]) (by kernel_rfl) (next_end (k := k4) (pos := p6) (l := l) (ty := 0) s (of_decide_eq_false hc7)) ?_
    refine ops_rule (C := []) [(k4, .stringIter ⟨(l).toArray⟩ p6)] [] 1 [] 0 (fun φ12 => [(7, .bool false)]) (fun φ12 => [(k4, .stringIter ⟨(l).toArray⟩ p6)]) (fun φ12 => []) s trivial (fun φ12 => by kernel_rfl) ?_
    intro φ12 w12 s
    refine ops_done (by kernel_rfl) ?_
    refine wp_seq ?_
    refine cond_false_rule (b := false) (by kernel_rfl) rfl ?_
    refine wp_exit ?_
    refine wp_seq ?_
    refine region_rule ?_
    refine ops_rule (C := []) [(k4, .stringIter ⟨(l).toArray⟩ p6)] [] 2 [] 0 (fun φ13 => [(2, .int .i64 ((q6 : Nat) : Int)), (10, .int .i64 ((q6 : Nat) : Int))]) (fun φ13 => [(k4, .stringIter ⟨(l).toArray⟩ p6)]) (fun φ13 => []) s trivial (fun φ13 => by kernel_rfl) ?_
    intro φ13 w13 s
    refine ops_done (by kernel_rfl) ?_
    refine wp_ret ?_
    refine ret_rule (C := []) [(k4, .stringIter ⟨(l).toArray⟩ p6)] [] (.int .i64 ((q6 : Nat) : Int)) [] [] s trivial (by kernel_rfl) ?_
    exact ⟨_, _, _, rfl, s, (by have e9 := hi6_1; rw [steps_end (of_decide_eq_false hc7), List.length_nil, Nat.add_zero] at e9; rw [e9])⟩

end Go.Proofs.YtgmigcmhnmmdkaaDoor

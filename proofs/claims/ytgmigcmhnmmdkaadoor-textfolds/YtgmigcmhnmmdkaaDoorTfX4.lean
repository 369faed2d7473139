/- The program's Check. -/
import Derived.Test.YtgmigcmhnmmdkaaDoorTfT6
set_option linter.all false
set_option maxRecDepth 100000
namespace Go.Proofs.YtgmigcmhnmmdkaaDoor
open Go.RowKit Go.Sep
attribute [local irreducible] Go.wpList Go.Code.wp

set_option maxHeartbeats 2000000 in
theorem check_c {I : IM} {l : List UInt8} (hT : U8 I) (hn : l.length ≤ 1000000) {mi : Int} : Fun Tryd.prog 23 #[.string ⟨(l).toArray⟩, .int .i64 mi] I (fun v J => v = .int .i64 ((ckE l mi : Nat) : Int)) := by
  refine enter_rule 25 [(0, .string ⟨(l).toArray⟩), (1, .int .i64 mi)] Tryd.func23 rfl (by kernel_rfl) ?_
  intro w s
  refine wp_seq ?_
  refine region_rule ?_
  refine ops_rule (C := []) [] [] 1 [] 0 (fun φ1 => [(4, .int .i64 0)]) (fun φ1 => []) (fun φ1 => []) s trivial (fun φ1 => by kernel_rfl) ?_
  intro φ1 w1 s
  refine ops_done (by kernel_rfl) ?_
  refine wp_seq ?_
  refine wp_seq ?_
  refine region_rule ?_
  refine ops_rule (C := []) [] [] 4 [] 0 (fun φ2 => [(10, .bool (decide (((l.length : Nat) : Int) > mi))), (9, .int .i64 mi), (8, .int .i64 ((l.length : Nat) : Int)), (7, .string ⟨(l).toArray⟩)]) (fun φ2 => []) (fun φ2 => []) s trivial (fun φ2 => by kernel_rfl) ?_
  intro φ2 w2 s
  refine ops_done (by kernel_rfl) ?_
  rcases Bool.eq_false_or_eq_true (decide (((l.length : Nat) : Int) > mi)) with hc3 | hc3
  ·
    rw [hc3]
    refine cond_true_rule (b := true) (by kernel_rfl) rfl ?_
    refine wp_seq ?_
    refine region_rule ?_
    refine ops_rule (C := []) [] [] 1 [] 0 (fun φ4 => [(4, .int .i64 9)]) (fun φ4 => []) (fun φ4 => []) s trivial (fun φ4 => by kernel_rfl) ?_
    intro φ4 w4 s
    refine ops_done (by kernel_rfl) ?_
    refine wp_ret ?_
    refine ret_rule (C := []) [] [] (.int .i64 9) [] [] s trivial (by kernel_rfl) ?_
    exact ⟨_, _, _, rfl, s, (ck_long (of_decide_eq_true hc3))⟩
  ·
    rw [hc3]
    refine cond_false_rule (b := false) (by kernel_rfl) rfl ?_
    refine wp_skip ?_
    refine wp_seq ?_
    refine wp_seq ?_
    refine region_rule ?_
    refine ops_rule (C := []) [] [] 1 [] 0 (fun φ5 => [(11, .string ⟨(l).toArray⟩)]) (fun φ5 => []) (fun φ5 => []) s trivial (fun φ5 => by kernel_rfl) ?_
    intro φ5 w5 s
    refine call_rule (some 12) s (valid_c (l := l) hT (by omega)) (by kernel_rfl) ?_
    intro v6 I6 w6 le6 h6 s
    replace hT := U8.mono le6 hT
    obtain rfl := h6
    refine ops_rule (C := []) [] [] 1 [] 0 (fun φ7 => [(13, .bool (!(Lib.validD l)))]) (fun φ7 => []) (fun φ7 => []) s trivial (fun φ7 => by kernel_rfl) ?_
    intro φ7 w7 s
    refine ops_done (by kernel_rfl) ?_
    rcases Bool.eq_false_or_eq_true (Lib.validD l) with hc8 | hc8
    ·
      rw [hc8]
      refine cond_false_rule (b := false) (by kernel_rfl) rfl ?_
      refine wp_skip ?_
      refine wp_seq ?_
      refine wp_seq ?_
      refine region_rule ?_
      refine ops_rule (C := []) [] [] 1 [] 0 (fun φ9 => [(14, .string ⟨(l).toArray⟩)]) (fun φ9 => []) (fun φ9 => []) s trivial (fun φ9 => by kernel_rfl) ?_
      intro φ9 w9 s
      obtain ⟨k10, w10, hr10, s⟩ := range_new (H := []) s ⟨(l).toArray⟩
      refine sem_rule (Instr.range 9 (.string ⟨(l).toArray⟩)) (some 15) (.pointer (some ⟨k10, 0, none⟩)) (by kernel_rfl) hr10 ?_
      refine ops_done (by kernel_rfl) ?_
      refine wp_block ?_
      have hle11 := IM.Le.refl I6
      refine loop_rule (fun (x : Nat) => [(0, .string ⟨(l).toArray⟩), (1, .int .i64 mi), (4, .int .i64 0), (15, .pointer (some ⟨k10, 0, none⟩))]) (fun (x : Nat) => [(k10, .stringIter ⟨(l).toArray⟩ x)]) (fun m (x : Nat) J => IM.Le I6 J ∧ l.length ≤ x + m ∧ (steps l).all plainD = (steps (l.drop x)).all plainD) (l.length) 0 s (by kernel_rfl) (List.Sublist.cons₂ _ List.Sublist.slnil) ⟨IM.Le.refl _, by omega, rfl⟩ ?_
      rintro m12 p12 I12 w12 ev12 s ⟨le12, hi12_0, hi12_1⟩
      try dsimp only at s hi12_0 hi12_1 ⊢
      replace hT := U8.mono le12 hT
      replace hle11 := leMono le12 hle11
      refine wp_seq ?_
      refine region_rule ?_
      rcases Bool.eq_false_or_eq_true (decide (p12 < l.length)) with hc13 | hc13
      ·
        obtain ⟨w14, hr14, s⟩ := next_own (k := k10) (pos := p12) (l := l) (ty := 0) s (of_decide_eq_true hc13)
        refine sem_rule (Instr.next (.pointer (some ⟨k10, 0, none⟩)) true 0) (some 16) (.tuple #[.bool true, .int .i64 ((p12 : Nat) : Int), .int .i32 ((dR l p12 : Nat) : Int)]) (by kernel_rfl) hr14 ?_
        refine ops_rule (C := []) [(k10, .stringIter ⟨(l).toArray⟩ (p12 + dW l p12))] [] 1 [] 0 (fun φ15 => [(17, .bool true)]) (fun φ15 => [(k10, .stringIter ⟨(l).toArray⟩ (p12 + dW l p12))]) (fun φ15 => []) s trivial (fun φ15 => by kernel_rfl) ?_
        intro φ15 w15 s
        refine ops_done (by kernel_rfl) ?_
        refine wp_seq ?_
        refine cond_true_rule (b := true) (by kernel_rfl) rfl ?_
        refine wp_skip ?_
        refine wp_block ?_
        refine wp_seq ?_
        refine region_rule ?_
        refine ops_rule (C := []) [(k10, .stringIter ⟨(l).toArray⟩ (p12 + dW l p12))] [] 2 [] 0 (fun φ16 => [(6, .int .i32 ((dR l p12 : Nat) : Int)), (18, .int .i32 ((dR l p12 : Nat) : Int))]) (fun φ16 => [(k10, .stringIter ⟨(l).toArray⟩ (p12 + dW l p12))]) (fun φ16 => []) s trivial (fun φ16 => by kernel_rfl) ?_
        intro φ16 w16 s
        refine ops_done (by kernel_rfl) ?_
        refine wp_seq ?_
        refine region_rule ?_
        refine ops_rule (C := []) [(k10, .stringIter ⟨(l).toArray⟩ (p12 + dW l p12))] [] 3 [] 0 (fun φ17 => [(21, .bool (decide (((dR l p12 : Nat) : Int) < ((32 : Nat) : Int)))), (20, .bool (decide (((dR l p12 : Nat) : Int) < ((32 : Nat) : Int)))), (19, .int .i32 ((dR l p12 : Nat) : Int))]) (fun φ17 => [(k10, .stringIter ⟨(l).toArray⟩ (p12 + dW l p12))]) (fun φ17 => []) s trivial (fun φ17 => by kernel_rfl) ?_
        intro φ17 w17 s
        rw [nat_lss (a := (dR l p12)) (b := 32)]
        rcases Bool.eq_false_or_eq_true (decide ((dR l p12) < 32)) with hc18 | hc18
        ·
          rw [hc18]
          refine ops_rule (C := []) [(k10, .stringIter ⟨(l).toArray⟩ (p12 + dW l p12))] [] 3 [] 0 (fun φ19 => [(24, .bool true), (23, undef), (22, undef)]) (fun φ19 => [(k10, .stringIter ⟨(l).toArray⟩ (p12 + dW l p12))]) (fun φ19 => []) s trivial (fun φ19 => by kernel_rfl) ?_
          intro φ19 w19 s
          refine ops_done (by kernel_rfl) ?_
          refine cond_true_rule (b := true) (by kernel_rfl) rfl ?_
          refine wp_seq ?_
          refine region_rule ?_
          refine ops_rule (C := []) [(k10, .stringIter ⟨(l).toArray⟩ (p12 + dW l p12))] [] 1 [] 0 (fun φ20 => [(4, .int .i64 7)]) (fun φ20 => [(k10, .stringIter ⟨(l).toArray⟩ (p12 + dW l p12))]) (fun φ20 => []) s trivial (fun φ20 => by kernel_rfl) ?_
          intro φ20 w20 s
          refine ops_done (by kernel_rfl) ?_
          refine wp_ret ?_
          refine ret_rule (C := []) [(k10, .stringIter ⟨(l).toArray⟩ (p12 + dW l p12))] [] (.int .i64 7) [] [] s trivial (by kernel_rfl) ?_
          exact ⟨_, _, _, rfl, s, (ck_bad (of_decide_eq_false hc3) (pl_bad (of_decide_eq_true hc13) (pl_1 (of_decide_eq_true hc18)) hi12_1))⟩
        ·
          rw [hc18]
          refine ops_rule (C := []) [(k10, .stringIter ⟨(l).toArray⟩ (p12 + dW l p12))] [] 3 [] 0 (fun φ21 => [(24, .bool (((dR l p12 : Nat) : Int) == ((127 : Nat) : Int))), (23, .bool (((dR l p12 : Nat) : Int) == ((127 : Nat) : Int))), (22, .int .i32 ((dR l p12 : Nat) : Int))]) (fun φ21 => [(k10, .stringIter ⟨(l).toArray⟩ (p12 + dW l p12))]) (fun φ21 => []) s trivial (fun φ21 => by kernel_rfl) ?_
          intro φ21 w21 s
          rw [nat_eql (a := (dR l p12)) (b := 127)]
          refine ops_done (by kernel_rfl) ?_
          rcases Bool.eq_false_or_eq_true (decide ((dR l p12) = 127)) with hc22 | hc22
          ·
            rw [hc22]
            refine cond_true_rule (b := true) (by kernel_rfl) rfl ?_
            refine wp_seq ?_
            refine region_rule ?_
            refine ops_rule (C := []) [(k10, .stringIter ⟨(l).toArray⟩ (p12 + dW l p12))] [] 1 [] 0 (fun φ23 => [(4, .int .i64 7)]) (fun φ23 => [(k10, .stringIter ⟨(l).toArray⟩ (p12 + dW l p12))]) (fun φ23 => []) s trivial (fun φ23 => by kernel_rfl) ?_
            intro φ23 w23 s
            refine ops_done (by kernel_rfl) ?_
            refine wp_ret ?_
            refine ret_rule (C := []) [(k10, .stringIter ⟨(l).toArray⟩ (p12 + dW l p12))] [] (.int .i64 7) [] [] s trivial (by kernel_rfl) ?_
            exact ⟨_, _, _, rfl, s, (ck_bad (of_decide_eq_false hc3) (pl_bad (of_decide_eq_true hc13) (pl_2 (of_decide_eq_true hc22)) hi12_1))⟩
          ·
            rw [hc22]
            refine cond_false_rule (b := false) (by kernel_rfl) rfl ?_
            refine wp_skip ?_
            have hq9 := of_decide_eq_true hc13
            have hw9 := dW_pos l p12
            have hv9 := dW_le hq9
            exact ⟨⟨m12 - 1, p12 + dW l p12, _, _, _, by omega, rfl, s, (List.Sublist.cons₂ _ List.Sublist.slnil), by kernel_rfl, hle11, by show l.length ≤ p12 + dW l p12 + (m12 - 1); omega, pl_go hq9 (pl_3 (of_decide_eq_false hc18) (of_decide_eq_false hc22)) hi12_1⟩⟩
      ·
        refine sem_rule (Instr.next (.pointer (some ⟨k10, 0, none⟩)) true 0) (some 16) (.tuple #[.bool false]) (by kernel_rfl) (next_end (k := k10) (pos := p12) (l := l) (ty := 0) s (of_decide_eq_false hc13)) ?_
        refine ops_rule (C := []) [(k10, .stringIter ⟨(l).toArray⟩ p12)] [] 1 [] 0 (fun φ25 => [(17, .bool false)]) (fun φ25 => [(k10, .stringIter ⟨(l).toArray⟩ p12)]) (fun φ25 => []) s trivial (fun φ25 => by kernel_rfl) ?_
        intro φ25 w25 s
        refine ops_done (by kernel_rfl) ?_
        refine wp_seq ?_
        refine cond_false_rule (b := false) (by kernel_rfl) rfl ?_
        refine wp_exit ?_
        refine wp_seq ?_
        refine region_rule ?_
        refine ops_rule (C := []) [(k10, .stringIter ⟨(l).toArray⟩ p12)] [] 1 [] 0 (fun φ26 => [(4, .int .i64 0)]) (fun φ26 => [(k10, .stringIter ⟨(l).toArray⟩ p12)]) (fun φ26 => []) s trivial (fun φ26 => by kernel_rfl) ?_
        intro φ26 w26 s
        refine ops_done (by kernel_rfl) ?_
        refine wp_ret ?_
        refine ret_rule (C := []) [(k10, .stringIter ⟨(l).toArray⟩ p12)] [] (.int .i64 0) [] [] s trivial (by kernel_rfl) ?_
        exact ⟨_, _, _, rfl, s, (ck_good (of_decide_eq_false hc3) (pl_end (of_decide_eq_false hc13) hc8 hi12_1))⟩
    ·
      rw [hc8]
      refine cond_true_rule (b := true) (by kernel_rfl) rfl ?_
      refine wp_seq ?_
      refine region_rule ?_
      refine ops_rule (C := []) [] [] 1 [] 0 (fun φ27 => [(4, .int .i64 7)]) (fun φ27 => []) (fun φ27 => []) s trivial (fun φ27 => by kernel_rfl) ?_
      intro φ27 w27 s
      refine ops_done (by kernel_rfl) ?_
      refine wp_ret ?_
      refine ret_rule (C := []) [] [] (.int .i64 7) [] [] s trivial (by kernel_rfl) ?_
      exact ⟨_, _, _, rfl, s, (ck_bad1 (of_decide_eq_false hc3) hc8)⟩

end Go.Proofs.YtgmigcmhnmmdkaaDoor

/- Signs are counted and looked at: the document's; the program's Runes. -/
import Derived.Test.YtgmigcmhnmmdkaaDoorTcX1
set_option linter.all false
set_option maxRecDepth 100000
namespace Go.Proofs.YtgmigcmhnmmdkaaDoor
open Go.RowKit Go.Sep
attribute [local irreducible] Go.wpList Go.Code.wp

set_option maxHeartbeats 1000000 in
theorem few_c {I : IM} {l : List UInt8} (hn : l.length ≤ 9223372036854775807) : Fun Tryd.prog 22 #[.string ⟨(l).toArray⟩] I (fun v J => v = .string ⟨(l.take 120).toArray⟩) := by
  refine enter_rule 8 [(0, .string ⟨(l).toArray⟩)] Tryd.func22 rfl (by kernel_rfl) ?_
  intro w s
  refine wp_seq ?_
  refine region_rule ?_
  refine ops_rule (C := []) [] [] 1 [] 0 (fun φ1 => [(2, .string ⟨#[]⟩)]) (fun φ1 => []) (fun φ1 => []) s trivial (fun φ1 => by kernel_rfl) ?_
  intro φ1 w1 s
  refine ops_done (by kernel_rfl) ?_
  refine wp_seq ?_
  refine region_rule ?_
  refine ops_rule (C := []) [] [] 4 [] 0 (fun φ2 => [(6, .int .i64 (if ((120 : Nat) : Int) < ((l.length : Nat) : Int) then ((120 : Nat) : Int) else ((l.length : Nat) : Int))), (5, .int .i64 ((l.length : Nat) : Int)), (4, .string ⟨(l).toArray⟩), (3, .string ⟨(l).toArray⟩)]) (fun φ2 => []) (fun φ2 => []) s trivial (fun φ2 => by kernel_rfl) ?_
  intro φ2 w2 s
  rw [nat_min (a := l.length) (b := 120)]
  refine sem_rule (Instr.sliceAt 9 (.string ⟨(l).toArray⟩) none (some (.int .i64 ((min l.length 120 : Nat) : Int))) none) (some 7) (.string ⟨((l.take (min l.length 120))).toArray⟩) (by kernel_rfl) (run_takeS (s := l) (hi := min l.length 120) (by   (try simp only [List.length_drop, List.length_take, List.length_append, List.length_cons, List.length_nil]); omega)) ?_
  refine ops_rule (C := []) [] [] 1 [] 0 (fun φ3 => [(2, .string ⟨((l.take (min l.length 120))).toArray⟩)]) (fun φ3 => []) (fun φ3 => []) s trivial (fun φ3 => by kernel_rfl) ?_
  intro φ3 w3 s
  refine ops_done (by kernel_rfl) ?_
  refine wp_ret ?_
  refine ret_rule (C := []) [] [] (.string ⟨((l.take (min l.length 120))).toArray⟩) [] [] s trivial (by kernel_rfl) ?_
  exact ⟨_, _, _, rfl, s, (congrArg (fun q : List UInt8 => Value.string ⟨q.toArray⟩) take_min)⟩

theorem okS_go {l : List UInt8} {p : Nat} (h : p < l.length) (hg : (!badD (dR l p, dW l p) && plainD (dR l p, dW l p)) = true) (e : okS l = okS (l.drop p)) : okS l = okS (l.drop (p + dW l p)) := by
  rw [e]; unfold okS; rw [steps_at h, List.all_cons, hg]; rfl
theorem okS_no {l : List UInt8} {p : Nat} (h : p < l.length) (hg : (!badD (dR l p, dW l p) && plainD (dR l p, dW l p)) = false) (e : okS l = okS (l.drop p)) : okS l = false := by
  rw [e]; unfold okS; rw [steps_at h, List.all_cons, hg]; rfl
theorem okS_end {l : List UInt8} {p : Nat} (h : ¬ p < l.length) (e : okS l = okS (l.drop p)) : okS l = true := by
  rw [e]; unfold okS; rw [steps_end h]; rfl
theorem sg_good {l : List UInt8} {p : Nat} (hb : dB l p = false) (h1 : ¬ sgX l p < 32) (h2 : ¬ sgX l p = 127) : (!badD (dR l p, dW l p) && plainD (dR l p, dW l p)) = true := by
  unfold dB at hb; unfold sgX dB at h1 h2; rw [hb] at h1 h2 ⊢; simp only [cond_false] at h1 h2
  unfold plainD; simp only [h1, h2]; rfl
theorem sg_bad1 {l : List UInt8} {p : Nat} (hb : dB l p = true) : (!badD (dR l p, dW l p) && plainD (dR l p, dW l p)) = false := by
  unfold dB at hb; rw [hb]; rfl
theorem sg_bad2 {l : List UInt8} {p : Nat} (hb : dB l p = false) (h1 : sgX l p < 32) : (!badD (dR l p, dW l p) && plainD (dR l p, dW l p)) = false := by
  unfold dB at hb; unfold sgX dB at h1; rw [hb] at h1 ⊢; simp only [cond_false] at h1
  unfold plainD; simp only [h1]; rfl
theorem sg_bad3 {l : List UInt8} {p : Nat} (hb : dB l p = false) (h1 : sgX l p = 127) : (!badD (dR l p, dW l p) && plainD (dR l p, dW l p)) = false := by
  unfold dB at hb; unfold sgX dB at h1; rw [hb] at h1 ⊢; simp only [cond_false] at h1
  unfold plainD; simp only [h1]; rfl
theorem ck_long {l : List UInt8} {mi : Int} (h : ((l.length : Int) > mi)) : Value.int .i64 9 = .int .i64 ((ckE l mi : Nat) : Int) := by
  unfold ckE; rw [decide_eq_true h]; rfl
theorem ck_bad {l : List UInt8} {mi : Int} (h : ¬ ((l.length : Int) > mi)) (e : okS l = false) : Value.int .i64 7 = .int .i64 ((ckE l mi : Nat) : Int) := by
  unfold ckE; rw [decide_eq_false h, e]; rfl
theorem ck_good {l : List UInt8} {mi : Int} (h : ¬ ((l.length : Int) > mi)) (e : okS l = true) : Value.int .i64 0 = .int .i64 ((ckE l mi : Nat) : Int) := by
  unfold ckE; rw [decide_eq_false h, e]; rfl

set_option maxHeartbeats 2000000 in
theorem refCheck_c {I : IM} {l : List UInt8} (hn : l.length ≤ 1000000) {mi : Int} : Fun Tryd.prog 24 #[.string ⟨(l).toArray⟩, .int .i64 mi] I (fun v J => v = .int .i64 ((ckE l mi : Nat) : Int)) := by
  refine enter_rule 37 [(0, .string ⟨(l).toArray⟩), (1, .int .i64 mi)] Tryd.func24 rfl (by kernel_rfl) ?_
  intro w s
  refine wp_seq ?_
  refine region_rule ?_
  refine ops_rule (C := []) [] [] 1 [] 0 (fun φ1 => [(4, .int .i64 0)]) (fun φ1 => []) (fun φ1 => []) s trivial (fun φ1 => by kernel_rfl) ?_
  intro φ1 w1 s
  refine ops_done (by kernel_rfl) ?_
  refine wp_seq ?_
  refine wp_seq ?_
  refine region_rule ?_
  refine ops_rule (C := []) [] [] 4 [] 0 (fun φ2 => [(12, .bool (decide (((l.length : Nat) : Int) > mi))), (11, .int .i64 mi), (10, .int .i64 ((l.length : Nat) : Int)), (9, .string ⟨(l).toArray⟩)]) (fun φ2 => []) (fun φ2 => []) s trivial (fun φ2 => by kernel_rfl) ?_
  intro φ2 w2 s
  refine ops_done (by kernel_rfl) ?_
  rcases Bool.eq_false_or_eq_true (decide (((l.length : Nat) : Int) > mi)) with hc3 | hc3
  ·
    rw [hc3]
    refine cond_true_rule (b := true) (by kernel_rfl) rfl ?_
    refine wp_seq ?_
    refine region_rule ?_
    refine ops_rule (C := []) [] [] 1 [] 0 (fun φ4 => [(4, .int .i64 9)]) (fun φ4 => []) (fun φ4 => []) s trivial (fun φ4 => by kernel_rfl) ?_
    intro φ4 w4 s
    refine ops_done (by kernel_rfl) ?_
    refine wp_ret ?_
    refine ret_rule (C := []) [] [] (.int .i64 9) [] [] s trivial (by kernel_rfl) ?_
    exact ⟨_, _, _, rfl, s, (ck_long (of_decide_eq_true hc3))⟩
  ·
    rw [hc3]
    refine cond_false_rule (b := false) (by kernel_rfl) rfl ?_
    refine wp_skip ?_
    refine wp_seq ?_
    refine wp_seq ?_
    refine region_rule ?_
    refine ops_rule (C := []) [] [] 1 [] 0 (fun φ5 => [(5, .int .i64 0)]) (fun φ5 => []) (fun φ5 => []) s trivial (fun φ5 => by kernel_rfl) ?_
    intro φ5 w5 s
    refine ops_done (by kernel_rfl) ?_
    refine wp_block ?_
    have hle6 := IM.Le.refl I
    refine loop_rule (fun (x : Nat) => [(0, .string ⟨(l).toArray⟩), (1, .int .i64 mi), (4, .int .i64 0), (5, .int .i64 ((x : Nat) : Int))]) (fun (x : Nat) => []) (fun m (x : Nat) J => IM.Le I J ∧ l.length ≤ x + m ∧ okS l = okS (l.drop x)) (l.length) 0 s (by kernel_rfl) List.Sublist.slnil ⟨IM.Le.refl _, by omega, rfl⟩ ?_
    rintro m7 p7 I7 w7 ev7 s ⟨le7, hi7_0, hi7_1⟩
    try dsimp only at s hi7_0 hi7_1 ⊢
    replace hle6 := leMono le7 hle6
    refine wp_seq ?_
    refine wp_seq ?_
    refine region_rule ?_
    refine ops_rule (C := []) [] [] 4 [] 0 (fun φ8 => [(16, .bool (decide (((p7 : Nat) : Int) < ((l.length : Nat) : Int)))), (15, .int .i64 ((l.length : Nat) : Int)), (14, .string ⟨(l).toArray⟩), (13, .int .i64 ((p7 : Nat) : Int))]) (fun φ8 => []) (fun φ8 => []) s trivial (fun φ8 => by kernel_rfl) ?_
    intro φ8 w8 s
    rw [nat_lss (a := p7) (b := l.length)]
    refine ops_done (by kernel_rfl) ?_
    rcases Bool.eq_false_or_eq_true (decide (p7 < l.length)) with hc9 | hc9
    ·
      rw [hc9]
      refine cond_true_rule (b := true) (by kernel_rfl) rfl ?_
      refine wp_skip ?_
      refine wp_block ?_
      refine wp_seq ?_
      refine region_rule ?_
      refine ops_rule (C := []) [] [] 2 [] 0 (fun φ10 => [(19, .int .i64 ((p7 : Nat) : Int)), (18, .string ⟨(l).toArray⟩)]) (fun φ10 => []) (fun φ10 => []) s trivial (fun φ10 => by kernel_rfl) ?_
      intro φ10 w10 s
      refine call_rule (some 20) s (sign_c (l := l) (p := p7) (by omega) (by have hz2 := dW_pos l p7; have hz3 := dW_le (of_decide_eq_true hc9);  have hq0 := of_decide_eq_false hc3; have hq1 := of_decide_eq_true hc9; (try simp only [List.length_drop, List.length_take, List.length_append, List.length_cons, List.length_nil]); omega)) (by kernel_rfl) ?_
      intro v11 I11 w11 le11 h11 s
      replace hle6 := leMono le11 hle6
      obtain rfl := h11
      refine ops_rule (C := []) [] [] 7 [] 0 (fun φ12 => [(8, .bool (!(dB l p7))), (7, .int .i64 ((dW l p7 : Nat) : Int)), (6, .int .i64 ((sgX l p7 : Nat) : Int)), (23, .bool (!(dB l p7))), (22, .int .i64 ((dW l p7 : Nat) : Int)), (21, .int .i64 ((sgX l p7 : Nat) : Int)), (17, .tuple #[.int .i64 ((sgX l p7 : Nat) : Int), .int .i64 ((dW l p7 : Nat) : Int), .bool (!(dB l p7))])]) (fun φ12 => []) (fun φ12 => []) s trivial (fun φ12 => by kernel_rfl) ?_
      intro φ12 w12 s
      refine ops_done (by kernel_rfl) ?_
      refine wp_seq ?_
      refine wp_seq ?_
      refine region_rule ?_
      refine ops_rule (C := []) [] [] 3 [] 0 (fun φ13 => [(26, .bool (!(!(dB l p7)))), (25, .bool (!(!(dB l p7)))), (24, .bool (!(dB l p7)))]) (fun φ13 => []) (fun φ13 => []) s trivial (fun φ13 => by kernel_rfl) ?_
      intro φ13 w13 s
      rcases Bool.eq_false_or_eq_true (dB l p7) with hc14 | hc14
      ·
        rw [hc14]
        refine ops_rule (C := []) [] [] 7 [] 0 (fun φ15 => [(33, .bool true), (32, undef), (31, undef), (30, .bool true), (29, .bool true), (28, undef), (27, undef)]) (fun φ15 => []) (fun φ15 => []) s trivial (fun φ15 => by kernel_rfl) ?_
        intro φ15 w15 s
        refine ops_done (by kernel_rfl) ?_
        refine cond_true_rule (b := true) (by kernel_rfl) rfl ?_
        refine wp_seq ?_
        refine region_rule ?_
        refine ops_rule (C := []) [] [] 1 [] 0 (fun φ16 => [(4, .int .i64 7)]) (fun φ16 => []) (fun φ16 => []) s trivial (fun φ16 => by kernel_rfl) ?_
        intro φ16 w16 s
        refine ops_done (by kernel_rfl) ?_
        refine wp_ret ?_
        refine ret_rule (C := []) [] [] (.int .i64 7) [] [] s trivial (by kernel_rfl) ?_
        exact ⟨_, _, _, rfl, s, (ck_bad (of_decide_eq_false hc3) (okS_no (of_decide_eq_true hc9) (sg_bad1 hc14) hi7_1))⟩
      ·
        rw [hc14]
        refine ops_rule (C := []) [] [] 4 [] 0 (fun φ17 => [(30, .bool (decide (((sgX l p7 : Nat) : Int) < ((32 : Nat) : Int)))), (29, .bool (decide (((sgX l p7 : Nat) : Int) < ((32 : Nat) : Int)))), (28, .bool (decide (((sgX l p7 : Nat) : Int) < ((32 : Nat) : Int)))), (27, .int .i64 ((sgX l p7 : Nat) : Int))]) (fun φ17 => []) (fun φ17 => []) s trivial (fun φ17 => by kernel_rfl) ?_
        intro φ17 w17 s
        rw [nat_lss (a := (sgX l p7)) (b := 32)]
        rcases Bool.eq_false_or_eq_true (decide ((sgX l p7) < 32)) with hc18 | hc18
        ·
          rw [hc18]
          refine ops_rule (C := []) [] [] 3 [] 0 (fun φ19 => [(33, .bool true), (32, undef), (31, undef)]) (fun φ19 => []) (fun φ19 => []) s trivial (fun φ19 => by kernel_rfl) ?_
          intro φ19 w19 s
          refine ops_done (by kernel_rfl) ?_
          refine cond_true_rule (b := true) (by kernel_rfl) rfl ?_
          refine wp_seq ?_
          refine region_rule ?_
          refine ops_rule (C := []) [] [] 1 [] 0 (fun φ20 => [(4, .int .i64 7)]) (fun φ20 => []) (fun φ20 => []) s trivial (fun φ20 => by kernel_rfl) ?_
          intro φ20 w20 s
          refine ops_done (by kernel_rfl) ?_
          refine wp_ret ?_
          refine ret_rule (C := []) [] [] (.int .i64 7) [] [] s trivial (by kernel_rfl) ?_
          exact ⟨_, _, _, rfl, s, (ck_bad (of_decide_eq_false hc3) (okS_no (of_decide_eq_true hc9) (sg_bad2 hc14 (of_decide_eq_true hc18)) hi7_1))⟩
        ·
          rw [hc18]
          refine ops_rule (C := []) [] [] 3 [] 0 (fun φ21 => [(33, .bool (((sgX l p7 : Nat) : Int) == ((127 : Nat) : Int))), (32, .bool (((sgX l p7 : Nat) : Int) == ((127 : Nat) : Int))), (31, .int .i64 ((sgX l p7 : Nat) : Int))]) (fun φ21 => []) (fun φ21 => []) s trivial (fun φ21 => by kernel_rfl) ?_
          intro φ21 w21 s
          rw [nat_eql (a := (sgX l p7)) (b := 127)]
          refine ops_done (by kernel_rfl) ?_
          rcases Bool.eq_false_or_eq_true (decide ((sgX l p7) = 127)) with hc22 | hc22
          ·
            rw [hc22]
            refine cond_true_rule (b := true) (by kernel_rfl) rfl ?_
            refine wp_seq ?_
            refine region_rule ?_
            refine ops_rule (C := []) [] [] 1 [] 0 (fun φ23 => [(4, .int .i64 7)]) (fun φ23 => []) (fun φ23 => []) s trivial (fun φ23 => by kernel_rfl) ?_
            intro φ23 w23 s
            refine ops_done (by kernel_rfl) ?_
            refine wp_ret ?_
            refine ret_rule (C := []) [] [] (.int .i64 7) [] [] s trivial (by kernel_rfl) ?_
            exact ⟨_, _, _, rfl, s, (ck_bad (of_decide_eq_false hc3) (okS_no (of_decide_eq_true hc9) (sg_bad3 hc14 (of_decide_eq_true hc22)) hi7_1))⟩
          ·
            rw [hc22]
            refine cond_false_rule (b := false) (by kernel_rfl) rfl ?_
            refine wp_skip ?_
            refine region_rule ?_
            refine ops_rule (C := []) [] [] 4 [] 0 (fun φ24 => [(5, .int .i64 (IntKind.wrap .i64 (((p7 : Nat) : Int) + ((dW l p7 : Nat) : Int)))), (36, .int .i64 (IntKind.wrap .i64 (((p7 : Nat) : Int) + ((dW l p7 : Nat) : Int)))), (35, .int .i64 ((dW l p7 : Nat) : Int)), (34, .int .i64 ((p7 : Nat) : Int))]) (fun φ24 => []) (fun φ24 => []) s trivial (fun φ24 => by kernel_rfl) ?_
            intro φ24 w24 s
            rw [nat_addI (a := p7) (b := (dW l p7)) (by have hz2 := dW_pos l p7; have hz3 := dW_le (of_decide_eq_true hc9);  have hq0 := of_decide_eq_false hc3; have hq1 := of_decide_eq_true hc9; have hq3 := of_decide_eq_false hc18; have hq4 := of_decide_eq_false hc22; omega)]
            refine ops_done (by kernel_rfl) ?_
            have hq9 := of_decide_eq_true hc9
            have hw9 := dW_pos l p7
            have hv9 := dW_le hq9
            exact ⟨⟨m7 - 1, p7 + dW l p7, _, _, _, by omega, rfl, s, List.Sublist.slnil, by kernel_rfl, hle6, by show l.length ≤ p7 + dW l p7 + (m7 - 1); omega, okS_go hq9 (sg_good hc14 (of_decide_eq_false hc18) (of_decide_eq_false hc22)) hi7_1⟩⟩
    ·
      rw [hc9]
      refine cond_false_rule (b := false) (by kernel_rfl) rfl ?_
      refine wp_exit ?_
      refine wp_seq ?_
      refine region_rule ?_
      refine ops_rule (C := []) [] [] 1 [] 0 (fun φ25 => [(4, .int .i64 0)]) (fun φ25 => []) (fun φ25 => []) s trivial (fun φ25 => by kernel_rfl) ?_
      intro φ25 w25 s
      refine ops_done (by kernel_rfl) ?_
      refine wp_ret ?_
      refine ret_rule (C := []) [] [] (.int .i64 0) [] [] s trivial (by kernel_rfl) ?_
      exact ⟨_, _, _, rfl, s, (ck_good (of_decide_eq_false hc3) (okS_end (of_decide_eq_false hc9) hi7_1))⟩

set_option maxHeartbeats 2000000 in
theorem refRunes_c {I : IM} {l : List UInt8} (hn : l.length ≤ 1000000) : Fun Tryd.prog 26 #[.string ⟨(l).toArray⟩] I (fun v J => v = .int .i64 ((nR l : Nat) : Int)) := by
  refine enter_rule 25 [(0, .string ⟨(l).toArray⟩)] Tryd.func26 rfl (by kernel_rfl) ?_
  intro w s
  refine wp_seq ?_
  refine region_rule ?_
  refine ops_rule (C := []) [] [] 1 [] 0 (fun φ1 => [(2, .int .i64 0)]) (fun φ1 => []) (fun φ1 => []) s trivial (fun φ1 => by kernel_rfl) ?_
  intro φ1 w1 s
  refine ops_done (by kernel_rfl) ?_
  refine wp_seq ?_
  refine region_rule ?_
  refine ops_rule (C := []) [] [] 1 [] 0 (fun φ2 => [(3, .int .i64 0)]) (fun φ2 => []) (fun φ2 => []) s trivial (fun φ2 => by kernel_rfl) ?_
  intro φ2 w2 s
  refine ops_done (by kernel_rfl) ?_
  refine wp_seq ?_
  refine wp_seq ?_
  refine region_rule ?_
  refine ops_rule (C := []) [] [] 1 [] 0 (fun φ3 => [(4, .int .i64 0)]) (fun φ3 => []) (fun φ3 => []) s trivial (fun φ3 => by kernel_rfl) ?_
  intro φ3 w3 s
  refine ops_done (by kernel_rfl) ?_
  refine wp_block ?_
  have hle4 := IM.Le.refl I
  refine loop_rule (fun (x : Nat × Nat) => [(0, .string ⟨(l).toArray⟩), (2, .int .i64 0), (3, .int .i64 ((x.1 : Nat) : Int)), (4, .int .i64 ((x.2 : Nat) : Int))]) (fun (x : Nat × Nat) => []) (fun m (x : Nat × Nat) J => IM.Le I J ∧ l.length ≤ x.2 + m ∧ x.1 + (steps (l.drop x.2)).length = nR l ∧ x.1 ≤ x.2) (l.length) (0, 0) s (by kernel_rfl) List.Sublist.slnil ⟨IM.Le.refl _, by omega, Nat.zero_add _, Nat.le_refl _⟩ ?_
  rintro m5 ⟨q5, p5⟩ I5 w5 ev5 s ⟨le5, hi5_0, hi5_1, hi5_2⟩
  try dsimp only at s hi5_0 hi5_1 hi5_2 ⊢
  replace hle4 := leMono le5 hle4
  refine wp_seq ?_
  refine wp_seq ?_
  refine region_rule ?_
  refine ops_rule (C := []) [] [] 4 [] 0 (fun φ6 => [(11, .bool (decide (((p5 : Nat) : Int) < ((l.length : Nat) : Int)))), (10, .int .i64 ((l.length : Nat) : Int)), (9, .string ⟨(l).toArray⟩), (8, .int .i64 ((p5 : Nat) : Int))]) (fun φ6 => []) (fun φ6 => []) s trivial (fun φ6 => by kernel_rfl) ?_
  intro φ6 w6 s
  rw [nat_lss (a := p5) (b := l.length)]
  refine ops_done (by kernel_rfl) ?_
  rcases Bool.eq_false_or_eq_true (decide (p5 < l.length)) with hc7 | hc7
  ·
    rw [hc7]
    refine cond_true_rule (b := true) (by kernel_rfl) rfl ?_
    refine wp_skip ?_
    refine wp_seq ?_
    refine wp_block ?_
    refine wp_seq ?_
    refine region_rule ?_
    refine ops_rule (C := []) [] [] 2 [] 0 (fun φ8 => [(16, .int .i64 ((p5 : Nat) : Int)), (15, .string ⟨(l).toArray⟩)]) (fun φ8 => []) (fun φ8 => []) s trivial (fun φ8 => by kernel_rfl) ?_
    intro φ8 w8 s
    refine call_rule (some 17) s (sign_c (l := l) (p := p5) (by omega) (by have hz0 := hi5_2; have hz2 := dW_pos l p5; have hz3 := dW_le (of_decide_eq_true hc7);  have hq0 := of_decide_eq_true hc7; (try simp only [List.length_drop, List.length_take, List.length_append, List.length_cons, List.length_nil]); omega)) (by kernel_rfl) ?_
    intro v9 I9 w9 le9 h9 s
    replace hle4 := leMono le9 hle4
    obtain rfl := h9
    refine ops_rule (C := []) [] [] 7 [] 0 (fun φ10 => [(7, .bool (!(dB l p5))), (6, .int .i64 ((dW l p5 : Nat) : Int)), (5, .int .i64 ((sgX l p5 : Nat) : Int)), (20, .bool (!(dB l p5))), (19, .int .i64 ((dW l p5 : Nat) : Int)), (18, .int .i64 ((sgX l p5 : Nat) : Int)), (14, .tuple #[.int .i64 ((sgX l p5 : Nat) : Int), .int .i64 ((dW l p5 : Nat) : Int), .bool (!(dB l p5))])]) (fun φ10 => []) (fun φ10 => []) s trivial (fun φ10 => by kernel_rfl) ?_
    intro φ10 w10 s
    refine ops_done (by kernel_rfl) ?_
    refine region_rule ?_
    refine ops_rule (C := []) [] [] 4 [] 0 (fun φ11 => [(4, .int .i64 (IntKind.wrap .i64 (((p5 : Nat) : Int) + ((dW l p5 : Nat) : Int)))), (23, .int .i64 (IntKind.wrap .i64 (((p5 : Nat) : Int) + ((dW l p5 : Nat) : Int)))), (22, .int .i64 ((dW l p5 : Nat) : Int)), (21, .int .i64 ((p5 : Nat) : Int))]) (fun φ11 => []) (fun φ11 => []) s trivial (fun φ11 => by kernel_rfl) ?_
    intro φ11 w11 s
    rw [nat_addI (a := p5) (b := (dW l p5)) (by have hz0 := hi5_2; have hz2 := dW_pos l p5; have hz3 := dW_le (of_decide_eq_true hc7);  have hq0 := of_decide_eq_true hc7; omega)]
    refine ops_done (by kernel_rfl) ?_
    refine region_rule ?_
    refine ops_rule (C := []) [] [] 3 [] 0 (fun φ12 => [(3, .int .i64 (IntKind.wrap .i64 (((q5 : Nat) : Int) + ((1 : Nat) : Int)))), (13, .int .i64 (IntKind.wrap .i64 (((q5 : Nat) : Int) + ((1 : Nat) : Int)))), (12, .int .i64 ((q5 : Nat) : Int))]) (fun φ12 => []) (fun φ12 => []) s trivial (fun φ12 => by kernel_rfl) ?_
    intro φ12 w12 s
    rw [nat_addI (a := q5) (b := 1) (by have hz0 := hi5_2; have hz2 := dW_pos l p5; have hz3 := dW_le (of_decide_eq_true hc7);  have hq0 := of_decide_eq_true hc7; omega)]
    refine ops_done (by kernel_rfl) ?_
    have hq9 := of_decide_eq_true hc7
    have hw9 := dW_pos l p5
    have hv9 := dW_le hq9
    exact ⟨⟨m5 - 1, (q5 + 1, p5 + dW l p5), _, _, _, by omega, rfl, s, List.Sublist.slnil, by kernel_rfl, hle4, by show l.length ≤ p5 + dW l p5 + (m5 - 1); omega, by have e9 := hi5_1; rw [steps_at hq9, List.length_cons] at e9; show q5 + 1 + (steps (l.drop (p5 + dW l p5))).length = nR l; omega, by show q5 + 1 ≤ p5 + dW l p5; have h8 := hi5_2; omega⟩⟩
  ·
    rw [hc7]
    refine cond_false_rule (b := false) (by kernel_rfl) rfl ?_
    refine wp_exit ?_
    refine wp_seq ?_
    refine region_rule ?_
    refine ops_rule (C := []) [] [] 2 [] 0 (fun φ13 => [(2, .int .i64 ((q5 : Nat) : Int)), (24, .int .i64 ((q5 : Nat) : Int))]) (fun φ13 => []) (fun φ13 => []) s trivial (fun φ13 => by kernel_rfl) ?_
    intro φ13 w13 s
    refine ops_done (by kernel_rfl) ?_
    refine wp_ret ?_
    refine ret_rule (C := []) [] [] (.int .i64 ((q5 : Nat) : Int)) [] [] s trivial (by kernel_rfl) ?_
    exact ⟨_, _, _, rfl, s, (by have e9 := hi5_1; rw [steps_end (of_decide_eq_false hc7), List.length_nil, Nat.add_zero] at e9; rw [e9])⟩

set_option maxHeartbeats 2000000 in
theorem runes_c {I : IM} {l : List UInt8} (hn : l.length ≤ 1000000) : Fun Tryd.prog 25 #[.string ⟨(l).toArray⟩] I (fun v J => v = .int .i64 ((nR l : Nat) : Int)) := by
  refine enter_rule 11 [(0, .string ⟨(l).toArray⟩)] Tryd.func25 rfl (by kernel_rfl) ?_
  intro w s
  refine wp_seq ?_
  refine region_rule ?_
  refine ops_rule (C := []) [] [] 1 [] 0 (fun φ1 => [(2, .int .i64 0)]) (fun φ1 => []) (fun φ1 => []) s trivial (fun φ1 => by kernel_rfl) ?_
  intro φ1 w1 s
  refine ops_done (by kernel_rfl) ?_
  refine wp_seq ?_
  refine region_rule ?_
  refine ops_rule (C := []) [] [] 1 [] 0 (fun φ2 => [(3, .int .i64 0)]) (fun φ2 => []) (fun φ2 => []) s trivial (fun φ2 => by kernel_rfl) ?_
  intro φ2 w2 s
  refine ops_done (by kernel_rfl) ?_
  refine wp_seq ?_
  refine wp_seq ?_
  refine region_rule ?_
  refine ops_rule (C := []) [] [] 1 [] 0 (fun φ3 => [(4, .string ⟨(l).toArray⟩)]) (fun φ3 => []) (fun φ3 => []) s trivial (fun φ3 => by kernel_rfl) ?_
  intro φ3 w3 s
  obtain ⟨k4, w4, hr4, s⟩ := range_new (H := []) s ⟨(l).toArray⟩
  refine sem_rule (Instr.range 9 (.string ⟨(l).toArray⟩)) (some 5) (.pointer (some ⟨k4, 0, none⟩)) (by kernel_rfl) hr4 ?_
  refine ops_done (by kernel_rfl) ?_
  refine wp_block ?_
  have hle5 := IM.Le.refl I
  refine loop_rule (fun (x : Nat × Nat) => [(0, .string ⟨(l).toArray⟩), (2, .int .i64 0), (5, .pointer (some ⟨k4, 0, none⟩)), (3, .int .i64 ((x.1 : Nat) : Int))]) (fun (x : Nat × Nat) => [(k4, .stringIter ⟨(l).toArray⟩ x.2)]) (fun m (x : Nat × Nat) J => IM.Le I J ∧ l.length ≤ x.2 + m ∧ x.1 + (steps (l.drop x.2)).length = nR l ∧ x.1 ≤ x.2) (l.length) (0, 0) s (by kernel_rfl) (List.Sublist.cons₂ _ List.Sublist.slnil) ⟨IM.Le.refl _, by omega, Nat.zero_add _, Nat.le_refl _⟩ ?_
  rintro m6 ⟨q6, p6⟩ I6 w6 ev6 s ⟨le6, hi6_0, hi6_1, hi6_2⟩
  try dsimp only at s hi6_0 hi6_1 hi6_2 ⊢
  replace hle5 := leMono le6 hle5
  refine wp_seq ?_
  refine region_rule ?_
  rcases Bool.eq_false_or_eq_true (decide (p6 < l.length)) with hc7 | hc7
  ·
    obtain ⟨w8, hr8, s⟩ := next_own (k := k4) (pos := p6) (l := l) (ty := 0) s (of_decide_eq_true hc7)
    refine sem_rule (Instr.next (.pointer (some ⟨k4, 0, none⟩)) true 0) (some 6) (.tuple #[.bool true, .int .i64 ((p6 : Nat) : Int), .int .i32 ((dR l p6 : Nat) : Int)]) (by kernel_rfl) hr8 ?_
    refine ops_rule (C := []) [(k4, .stringIter ⟨(l).toArray⟩ (p6 + dW l p6))] [] 1 [] 0 (fun φ9 => [(7, .bool true)]) (fun φ9 => [(k4, .stringIter ⟨(l).toArray⟩ (p6 + dW l p6))]) (fun φ9 => []) s trivial (fun φ9 => by kernel_rfl) ?_
    intro φ9 w9 s
    refine ops_done (by kernel_rfl) ?_
    refine wp_seq ?_
    refine cond_true_rule (b := true) (by kernel_rfl) rfl ?_
    refine wp_skip ?_
    refine wp_block ?_
    refine region_rule ?_
    refine ops_rule (C := []) [(k4, .stringIter ⟨(l).toArray⟩ (p6 + dW l p6))] [] 3 [] 0 (fun φ10 => [(3, .int .i64 (IntKind.wrap .i64 (((q6 : Nat) : Int) + ((1 : Nat) : Int)))), (9, .int .i64 (IntKind.wrap .i64 (((q6 : Nat) : Int) + ((1 : Nat) : Int)))), (8, .int .i64 ((q6 : Nat) : Int))]) (fun φ10 => [(k4, .stringIter ⟨(l).toArray⟩ (p6 + dW l p6))]) (fun φ10 => []) s trivial (fun φ10 => by kernel_rfl) ?_
    intro φ10 w10 s
    rw [nat_addI (a := q6) (b := 1) (by have hz0 := hi6_2; have hz2 := dW_pos l p6; have hz3 := dW_le (of_decide_eq_true hc7);  have hq0 := of_decide_eq_true hc7; omega)]
    refine ops_done (by kernel_rfl) ?_
    have hq9 := of_decide_eq_true hc7
    have hw9 := dW_pos l p6
    have hv9 := dW_le hq9
    exact ⟨⟨m6 - 1, (q6 + 1, p6 + dW l p6), _, _, _, by omega, rfl, s, (List.Sublist.cons₂ _ List.Sublist.slnil), by kernel_rfl, hle5, by show l.length ≤ p6 + dW l p6 + (m6 - 1); omega, by have e9 := hi6_1; rw [steps_at hq9, List.length_cons] at e9; show q6 + 1 + (steps (l.drop (p6 + dW l p6))).length = nR l; omega, by show q6 + 1 ≤ p6 + dW l p6; have h8 := hi6_2; omega⟩⟩
  ·
    refine sem_rule (Instr.next (.pointer (some ⟨k4, 0, none⟩)) true 0) (some 6) (.tuple #[.bool false]) (by kernel_rfl) (next_end (k := k4) (pos := p6) (l := l) (ty := 0) s (of_decide_eq_false hc7)) ?_
    refine ops_rule (C := []) [(k4, .stringIter ⟨(l).toArray⟩ p6)] [] 1 [] 0 (fun φ12 => [(7, .bool false)]) (fun φ12 => [(k4, .stringIter ⟨(l).toArray⟩ p6)]) (fun φ12 => []) s trivial (fun φ12 => by kernel_rfl) ?_
    intro φ12 w12 s
    refine ops_done (by kernel_rfl) ?_
    refine wp_seq ?_
    refine cond_false_rule (b := false) (by kernel_rfl) rfl ?_
    refine wp_exit ?_
    refine wp_seq ?_
    refine region_rule ?_
    refine ops_rule (C := []) [(k4, .stringIter ⟨(l).toArray⟩ p6)] [] 2 [] 0 (fun φ13 => [(2, .int .i64 ((q6 : Nat) : Int)), (10, .int .i64 ((q6 : Nat) : Int))]) (fun φ13 => [(k4, .stringIter ⟨(l).toArray⟩ p6)]) (fun φ13 => []) s trivial (fun φ13 => by kernel_rfl) ?_
    intro φ13 w13 s
    refine ops_done (by kernel_rfl) ?_
    refine wp_ret ?_
    refine ret_rule (C := []) [(k4, .stringIter ⟨(l).toArray⟩ p6)] [] (.int .i64 ((q6 : Nat) : Int)) [] [] s trivial (by kernel_rfl) ?_
    exact ⟨_, _, _, rfl, s, (by have e9 := hi6_1; rw [steps_end (of_decide_eq_false hc7), List.length_nil, Nat.add_zero] at e9; rw [e9])⟩

end Go.Proofs.YtgmigcmhnmmdkaaDoor

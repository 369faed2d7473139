/- Signs are counted and looked at: the document's; the program's Runes. -/
import Derived.Test.YtcpmjogeafhpnaaDoorCoM17
import Derived.Test.YtcpmjogeafhpnaaDoorCoTyX1
import Derived.Shelf.Unicode.ValidAny
import Derived.Test.YtcpmjogeafhpnaaDoorProg
import Derived.Shelf.Strings.Builder1
import Derived.Lib.FieldsP
import Derived.Lib.Join
import Derived.Shelf.Strings.OnBuilder
import Derived.Shelf.Strings.FieldsFuncAny
import Derived.WalkKit
set_option linter.all false
set_option maxRecDepth 100000
namespace Go.Proofs.YtcpmjogeafhpnaaDoor.Tx
open Go.RowKit Go.Sep
attribute [local irreducible] Go.wpList Go.Code.wp

theorem okS_go {l : List UInt8} {p : Nat} (h : p < l.length) (hg : (!badD (dR l p, dW l p) && plainD (dR l p, dW l p)) = true) (e : okS l = okS (l.drop p)) : okS l = okS (l.drop (p + dW l p)) := by
  rw [e]; unfold okS; rw [steps_at h, List.all_cons, hg]; rfl
theorem okS_no {l : List UInt8} {p : Nat} (h : p < l.length) (hg : (!badD (dR l p, dW l p) && plainD (dR l p, dW l p)) = false) (e : okS l = okS (l.drop p)) : okS l = false := by
  rw [e]; unfold okS; rw [steps_at h, List.all_cons, hg]; rfl
theorem okS_end {l : List UInt8} {p : Nat} (h : ¬ p < l.length) (e : okS l = okS (l.drop p)) : okS l = true := by
  rw [e]; unfold okS; rw [steps_end h]; rfl
theorem sg_good {l : List UInt8} {p : Nat} (hb : dB l p = false) (h1 : ¬ sgX l p < 32) (h2 : ¬ sgX l p = 127) : (!badD (dR l p, dW l p) && plainD (dR l p, dW l p)) = true := by
  unfold dB at hb; unfold sgX dB at h1 h2; rw [hb] at h1 h2 ⊢; simp only [cond_false] at h1 h2
  unfold plainD; simp only [h1, h2]; rfl
theorem sg_bad1 {l : List UInt8} {p : Nat} (hb : dB l p = true) : (!badD (dR l p, dW l p) && plainD (dR l p, dW l p)) = false := by
  unfold dB at hb; rw [hb]; rfl
theorem sg_bad2 {l : List UInt8} {p : Nat} (hb : dB l p = false) (h1 : sgX l p < 32) : (!badD (dR l p, dW l p) && plainD (dR l p, dW l p)) = false := by
  unfold dB at hb; unfold sgX dB at h1; rw [hb] at h1 ⊢; simp only [cond_false] at h1
  unfold plainD; simp only [h1]; rfl
theorem sg_bad3 {l : List UInt8} {p : Nat} (hb : dB l p = false) (h1 : sgX l p = 127) : (!badD (dR l p, dW l p) && plainD (dR l p, dW l p)) = false := by
  unfold dB at hb; unfold sgX dB at h1; rw [hb] at h1 ⊢; simp only [cond_false] at h1
  unfold plainD; simp only [h1]; rfl
theorem ck_long {l : List UInt8} {mi : Int} (h : ((l.length : Int) > mi)) : Value.int .i64 9 = .int .i64 ((ckE l mi : Nat) : Int) := by
  unfold ckE; rw [decide_eq_true h]; rfl
theorem ck_bad {l : List UInt8} {mi : Int} (h : ¬ ((l.length : Int) > mi)) (e : okS l = false) : Value.int .i64 7 = .int .i64 ((ckE l mi : Nat) : Int) := by
  unfold ckE; rw [decide_eq_false h, e]; rfl
theorem ck_good {l : List UInt8} {mi : Int} (h : ¬ ((l.length : Int) > mi)) (e : okS l = true) : Value.int .i64 0 = .int .i64 ((ckE l mi : Nat) : Int) := by
  unfold ckE; rw [decide_eq_false h, e]; rfl

set_option maxHeartbeats 2000000 in
theorem refCheck_c {I : IM} {l : List UInt8} (hn : l.length ≤ 1000000) {mi : Int} : Fun Tryd.prog 62 #[.string ⟨(l).toArray⟩, .int .i64 mi] I (fun v J => v = .int .i64 ((ckE l mi : Nat) : Int)) := by
  refine enter_rule 37 [(0, .string ⟨(l).toArray⟩), (1, .int .i64 mi)] Tryd.func62 rfl (by kernel_rfl) ?_
  intro w s
  refine wp_seq ?_
  refine region_rule ?_
  refine ops_rule (C := []) [] [] 1 [] 0 (fun φ1 => [(4, .int .i64 0)]) (fun φ1 => []) (fun φ1 => []) s trivial (fun φ1 => by kernel_rfl) ?_
  intro φ1 w1 s
  refine ops_done (by kernel_rfl) ?_
  refine wp_seq ?_
  refine wp_seq ?_
  refine region_rule ?_
  refine ops_rule (C := []) [] [] 4 [] 0 (fun φ2 => [(12, .bool (decide (((l.length : Nat) : Int) > mi))), (11, .int .i64 mi), (10, .int .i64 ((l.length : Nat) : Int)), (9, .string ⟨(l).toArray⟩)]) (fun φ2 => []) (fun φ2 => []) s trivial (fun φ2 => by kernel_rfl) ?_
  intro φ2 w2 s
  refine ops_done (by kernel_rfl) ?_
  rcases Bool.eq_false_or_eq_true (decide (((l.length : Nat) : Int) > mi)) with hc3 | hc3
  ·
    rw [hc3]
    refine cond_true_rule (b := true) (by kernel_rfl) rfl ?_
    refine wp_seq ?_
    refine region_rule ?_
    refine ops_rule (C := []) [] [] 1 [] 0 (fun φ4 => [(4, .int .i64 9)]) (fun φ4 => []) (fun φ4 => []) s trivial (fun φ4 => by kernel_rfl) ?_
    intro φ4 w4 s
    refine ops_done (by kernel_rfl) ?_
    refine wp_ret ?_
    refine ret_rule (C := []) [] [] (.int .i64 9) [] [] s trivial (by kernel_rfl) ?_
    exact ⟨_, _, _, rfl, s, (ck_long (of_decide_eq_true hc3))⟩
  ·
    rw [hc3]
    refine cond_false_rule (b := false) (by kernel_rfl) rfl ?_
    refine wp_skip ?_
    refine wp_seq ?_
    refine wp_seq ?_
    refine region_rule ?_
    refine ops_rule (C := []) [] [] 1 [] 0 (fun φ5 => [(5, .int .i64 0)]) (fun φ5 => []) (fun φ5 => []) s trivial (fun φ5 => by kernel_rfl) ?_
    intro φ5 w5 s
    refine ops_done (by kernel_rfl) ?_
    refine wp_block ?_
    have hle6 := IM.Le.refl I
    refine loop_rule (fun (x : Nat) => [(0, .string ⟨(l).toArray⟩), (1, .int .i64 mi), (4, .int .i64 0), (5, .int .i64 ((x : Nat) : Int))]) (fun (x : Nat) => []) (fun m (x : Nat) J => IM.Le I J ∧ l.length ≤ x + m ∧ okS l = okS (l.drop x)) (l.length) 0 s (by kernel_rfl) List.Sublist.slnil ⟨IM.Le.refl _, by omega, rfl⟩ ?_
    rintro m7 p7 I7 w7 ev7 s ⟨le7, hi7_0, hi7_1⟩
    try dsimp only at s hi7_0 hi7_1 ⊢
    replace hle6 := leMono le7 hle6
    refine wp_seq ?_
    refine wp_seq ?_
    refine region_rule ?_
    refine ops_rule (C := []) [] [] 4 [] 0 (fun φ8 => [(16, .bool (decide (((p7 : Nat) : Int) < ((l.length : Nat) : Int)))), (15, .int .i64 ((l.length : Nat) : Int)), (14, .string ⟨(l).toArray⟩), (13, .int .i64 ((p7 : Nat) : Int))]) (fun φ8 => []) (fun φ8 => []) s trivial (fun φ8 => by kernel_rfl) ?_
    intro φ8 w8 s
    rw [nat_lss (a := p7) (b := l.length)]
    refine ops_done (by kernel_rfl) ?_
    rcases Bool.eq_false_or_eq_true (decide (p7 < l.length)) with hc9 | hc9
    ·
      rw [hc9]
      refine cond_true_rule (b := true) (by kernel_rfl) rfl ?_
      refine wp_skip ?_
      refine wp_block ?_
      refine wp_seq ?_
      refine region_rule ?_
      refine ops_rule (C := []) [] [] 2 [] 0 (fun φ10 => [(19, .int .i64 ((p7 : Nat) : Int)), (18, .string ⟨(l).toArray⟩)]) (fun φ10 => []) (fun φ10 => []) s trivial (fun φ10 => by kernel_rfl) ?_
      intro φ10 w10 s
      refine call_rule (some 20) s (sign_c (l := l) (p := p7) (by omega) (by have hz2 := dW_pos l p7; have hz3 := dW_le (of_decide_eq_true hc9);  have hq0 := of_decide_eq_false hc3; have hq1 := of_decide_eq_true hc9; (try simp only [List.length_drop, List.length_take, List.length_append, List.length_cons, List.length_nil]); omega)) (by kernel_rfl) ?_
      intro v11 I11 w11 le11 h11 s
      replace hle6 := leMono le11 hle6
      obtain rfl := h11
      refine ops_rule (C := []) [] [] 7 [] 0 (fun φ12 => [(8, .bool (!(dB l p7))), (7, .int .i64 ((dW l p7 : Nat) : Int)), (6, .int .i64 ((sgX l p7 : Nat) : Int)), (23, .bool (!(dB l p7))), (22, .int .i64 ((dW l p7 : Nat) : Int)), (21, .int .i64 ((sgX l p7 : Nat) : Int)), (17, .tuple #[.int .i64 ((sgX l p7 : Nat) : Int), .int .i64 ((dW l p7 : Nat) : Int), .bool (!(dB l p7))])]) (fun φ12 => []) (fun φ12 => []) s trivial (fun φ12 => by kernel_rfl) ?_
      intro φ12 w12 s
      refine ops_done (by kernel_rfl) ?_
      refine wp_seq ?_
      refine wp_seq ?_
      refine region_rule ?_
      refine ops_rule (C := []) [] [] 3 [] 0 (fun φ13 => [(26, .bool (!(!(dB l p7)))), (25, .bool (!(!(dB l p7)))), (24, .bool (!(dB l p7)))]) (fun φ13 => []) (fun φ13 => []) s trivial (fun φ13 => by kernel_rfl) ?_
      intro φ13 w13 s
      rcases Bool.eq_false_or_eq_true (dB l p7) with hc14 | hc14
      ·
        rw [hc14]
        refine ops_rule (C := []) [] [] 7 [] 0 (fun φ15 => [(33, .bool true), (32, undef), (31, undef), (30, .bool true), (29, .bool true), (28, undef), (27, undef)]) (fun φ15 => []) (fun φ15 => []) s trivial (fun φ15 => by kernel_rfl) ?_
        intro φ15 w15 s
        refine ops_done (by kernel_rfl) ?_
        refine cond_true_rule (b := true) (by kernel_rfl) rfl ?_
        refine wp_seq ?_
        refine region_rule ?_
        refine ops_rule (C := []) [] [] 1 [] 0 (fun φ16 => [(4, .int .i64 7)]) (fun φ16 => []) (fun φ16 => []) s trivial (fun φ16 => by kernel_rfl) ?_
        intro φ16 w16 s
        refine ops_done (by kernel_rfl) ?_
        refine wp_ret ?_
        refine ret_rule (C := []) [] [] (.int .i64 7) [] [] s trivial (by kernel_rfl) ?_
        exact ⟨_, _, _, rfl, s, (ck_bad (of_decide_eq_false hc3) (okS_no (of_decide_eq_true hc9) (sg_bad1 hc14) hi7_1))⟩
      ·
        rw [hc14]
        refine ops_rule (C := []) [] [] 4 [] 0 (fun φ17 => [(30, .bool (decide (((sgX l p7 : Nat) : Int) < ((32 : Nat) : Int)))), (29, .bool (decide (((sgX l p7 : Nat) : Int) < ((32 : Nat) : Int)))), (28, .bool (decide (((sgX l p7 : Nat) : Int) < ((32 : Nat) : Int)))), (27, .int .i64 ((sgX l p7 : Nat) : Int))]) (fun φ17 => []) (fun φ17 => []) s trivial (fun φ17 => by kernel_rfl) ?_
        intro φ17 w17 s
        rw [nat_lss (a := (sgX l p7)) (b := 32)]
        rcases Bool.eq_false_or_eq_true (decide ((sgX l p7) < 32)) with hc18 | hc18
        ·
          rw [hc18]
          refine ops_rule (C := []) [] [] 3 [] 0 (fun φ19 => [(33, .bool true), (32, undef), (31, undef)]) (fun φ19 => []) (fun φ19 => []) s trivial (fun φ19 => by kernel_rfl) ?_
          intro φ19 w19 s
          refine ops_done (by kernel_rfl) ?_
          refine cond_true_rule (b := true) (by kernel_rfl) rfl ?_
          refine wp_seq ?_
          refine region_rule ?_
          refine ops_rule (C := []) [] [] 1 [] 0 (fun φ20 => [(4, .int .i64 7)]) (fun φ20 => []) (fun φ20 => []) s trivial (fun φ20 => by kernel_rfl) ?_
          intro φ20 w20 s
          refine ops_done (by kernel_rfl) ?_
          refine wp_ret ?_
          refine ret_rule (C := []) [] [] (.int .i64 7) [] [] s trivial (by kernel_rfl) ?_
          exact ⟨_, _, _, rfl, s, (ck_bad (of_decide_eq_false hc3) (okS_no (of_decide_eq_true hc9) (sg_bad2 hc14 (of_decide_eq_true hc18)) hi7_1))⟩
        ·
          rw [hc18]
          refine ops_rule (C := []) [] [] 3 [] 0 (fun φ21 => [(33, .bool (((sgX l p7 : Nat) : Int) == ((127 : Nat) : Int))), (32, .bool (((sgX l p7 : Nat) : Int) == ((127 : Nat) : Int))), (31, .int .i64 ((sgX l p7 : Nat) : Int))]) (fun φ21 => []) (fun φ21 => []) s trivial (fun φ21 => by kernel_rfl) ?_
          intro φ21 w21 s
          rw [nat_eql (a := (sgX l p7)) (b := 127)]
          refine ops_done (by kernel_rfl) ?_
          rcases Bool.eq_false_or_eq_true (decide ((sgX l p7) = 127)) with hc22 | hc22
          ·
            rw [hc22]
            refine cond_true_rule (b := true) (by kernel_rfl) rfl ?_
            refine wp_seq ?_
            refine region_rule ?_
            refine ops_rule (C := []) [] [] 1 [] 0 (fun φ23 => [(4, .int .i64 7)]) (fun φ23 => []) (fun φ23 => []) s trivial (fun φ23 => by kernel_rfl) ?_
            intro φ23 w23 s
            refine ops_done (by kernel_rfl) ?_
            refine wp_ret ?_
            refine ret_rule (C := []) [] [] (.int .i64 7) [] [] s trivial (by kernel_rfl) ?_
            exact ⟨_, _, _, rfl, s, (ck_bad (of_decide_eq_false hc3) (okS_no (of_decide_eq_true hc9) (sg_bad3 hc14 (of_decide_eq_true hc22)) hi7_1))⟩
          ·
            rw [hc22]
            refine cond_false_rule (b := false) (by kernel_rfl) rfl ?_
            refine wp_skip ?_
            refine region_rule ?_
            refine ops_rule (C := []) [] [] 4 [] 0 (fun φ24 => [(5, .int .i64 (IntKind.wrap .i64 (((p7 : Nat) : Int) + ((dW l p7 : Nat) : Int)))), (36, .int .i64 (IntKind.wrap .i64 (((p7 : Nat) : Int) + ((dW l p7 : Nat) : Int)))), (35, .int .i64 ((dW l p7 : Nat) : Int)), (34, .int .i64 ((p7 : Nat) : Int))]) (fun φ24 => []) (fun φ24 => []) s trivial (fun φ24 => by kernel_rfl) ?_
            intro φ24 w24 s
            rw [nat_addI (a := p7) (b := (dW l p7)) (by have hz2 := dW_pos l p7; have hz3 := dW_le (of_decide_eq_true hc9);  have hq0 := of_decide_eq_false hc3; have hq1 := of_decide_eq_true hc9; have hq3 := of_decide_eq_false hc18; have hq4 := of_decide_eq_false hc22; omega)]
            refine ops_done (by kernel_rfl) ?_
            have hq9 := of_decide_eq_true hc9
            have hw9 := dW_pos l p7
            have hv9 := dW_le hq9
            exact ⟨⟨m7 - 1, p7 + dW l p7, _, _, _, by omega, rfl, s, List.Sublist.slnil, by kernel_rfl, hle6, by show l.length ≤ p7 + dW l p7 + (m7 - 1); omega, okS_go hq9 (sg_good hc14 (of_decide_eq_false hc18) (of_decide_eq_false hc22)) hi7_1⟩⟩
    ·
      rw [hc9]
      refine cond_false_rule (b := false) (by kernel_rfl) rfl ?_
      refine wp_exit ?_
      refine wp_seq ?_
      refine region_rule ?_
      refine ops_rule (C := []) [] [] 1 [] 0 (fun φ25 => [(4, .int .i64 0)]) (fun φ25 => []) (fun φ25 => []) s trivial (fun φ25 => by kernel_rfl) ?_
      intro φ25 w25 s
      refine ops_done (by kernel_rfl) ?_
      refine wp_ret ?_
      refine ret_rule (C := []) [] [] (.int .i64 0) [] [] s trivial (by kernel_rfl) ?_
      exact ⟨_, _, _, rfl, s, (ck_good (of_decide_eq_false hc3) (okS_end (of_decide_eq_false hc9) hi7_1))⟩

set_option maxHeartbeats 2000000 in
theorem runes_c {I : IM} {l : List UInt8} (hn : l.length ≤ 1000000) : Fun Tryd.prog 122 #[.string ⟨(l).toArray⟩] I (fun v J => v = .int .i64 ((nR l : Nat) : Int)) := by
  refine enter_rule 11 [(0, .string ⟨(l).toArray⟩)] Tryd.func122 rfl (by kernel_rfl) ?_
  intro w s
  refine wp_seq ?_
  refine region_rule ?_
  refine ops_rule (C := []) [] [] 1 [] 0 (fun φ1 => [(2, .int .i64 0)]) (fun φ1 => []) (fun φ1 => []) s trivial (fun φ1 => by kernel_rfl) ?_
  intro φ1 w1 s
  refine ops_done (by kernel_rfl) ?_
  refine wp_seq ?_
  refine region_rule ?_
  refine ops_rule (C := []) [] [] 1 [] 0 (fun φ2 => [(3, .int .i64 0)]) (fun φ2 => []) (fun φ2 => []) s trivial (fun φ2 => by kernel_rfl) ?_
  intro φ2 w2 s
  refine ops_done (by kernel_rfl) ?_
  refine wp_seq ?_
  refine wp_seq ?_
  refine region_rule ?_
  refine ops_rule (C := []) [] [] 1 [] 0 (fun φ3 => [(4, .string ⟨(l).toArray⟩)]) (fun φ3 => []) (fun φ3 => []) s trivial (fun φ3 => by kernel_rfl) ?_
  intro φ3 w3 s
  obtain ⟨k4, w4, hr4, s⟩ := range_new (H := []) s ⟨(l).toArray⟩
  refine sem_rule (Instr.range 9 (.string ⟨(l).toArray⟩)) (some 5) (.pointer (some ⟨k4, 0, none⟩)) (by kernel_rfl) hr4 ?_
  refine ops_done (by kernel_rfl) ?_
  refine wp_block ?_
  have hle5 := IM.Le.refl I
  refine loop_rule (fun (x : Nat × Nat) => [(0, .string ⟨(l).toArray⟩), (2, .int .i64 0), (5, .pointer (some ⟨k4, 0, none⟩)), (3, .int .i64 ((x.1 : Nat) : Int))]) (fun (x : Nat × Nat) => [(k4, .stringIter ⟨(l).toArray⟩ x.2)]) (fun m (x : Nat × Nat) J => IM.Le I J ∧ l.length ≤ x.2 + m ∧ x.1 + (steps (l.drop x.2)).length = nR l ∧ x.1 ≤ x.2) (l.length) (0, 0) s (by kernel_rfl) (List.Sublist.cons₂ _ List.Sublist.slnil) ⟨IM.Le.refl _, by omega, Nat.zero_add _, Nat.le_refl _⟩ ?_
  rintro m6 ⟨q6, p6⟩ I6 w6 ev6 s ⟨le6, hi6_0, hi6_1, hi6_2⟩
  try dsimp only at s hi6_0 hi6_1 hi6_2 ⊢
  replace hle5 := leMono le6 hle5
  refine wp_seq ?_
  refine region_rule ?_
  rcases Bool.eq_false_or_eq_true (decide (p6 < l.length)) with hc7 | hc7
  ·
    obtain ⟨w8, hr8, s⟩ := next_own (k := k4) (pos := p6) (l := l) (ty := 0) s (of_decide_eq_true hc7)
    refine sem_rule (Instr.next (.pointer (some ⟨k4, 0, none⟩)) true 0) (some 6) (.tuple #[.bool true, .int .i64 ((p6 : Nat) : Int), .int .i32 ((dR l p6 : Nat) : Int)]) (by kernel_rfl) hr8 ?_
    refine ops_rule (C := []) [(k4, .stringIter ⟨(l).toArray⟩ (p6 + dW l p6))] [] 1 [] 0 (fun φ9 => [(7, .bool true)]) (fun φ9 => [(k4, .stringIter ⟨(l).toArray⟩ (p6 + dW l p6))]) (fun φ9 => []) s trivial (fun φ9 => by kernel_rfl) ?_
    intro φ9 w9 s
    refine ops_done (by kernel_rfl) ?_
    refine wp_seq ?_
    refine cond_true_rule (b := true) (by kernel_rfl) rfl ?_
    refine wp_skip ?_
    refine wp_block ?_
    refine region_rule ?_
    refine ops_rule (C := []) [(k4, .stringIter ⟨(l).toArray⟩ (p6 + dW l p6))] [] 3 [] 0 (fun φ10 => [(3, .int .i64 (IntKind.wrap .i64 (((q6 : Nat) : Int) + ((1 : Nat) : Int)))), (9, .int .i64 (IntKind.wrap .i64 (((q6 : Nat) : Int) + ((1 : Nat) : Int)))), (8, .int .i64 ((q6 : Nat) : Int))]) (fun φ10 => [(k4, .stringIter ⟨(l).toArray⟩ (p6 + dW l p6))]) (fun φ10 => []) s trivial (fun φ10 => by kernel_rfl) ?_
    intro φ10 w10 s
    rw [nat_addI (a := q6) (b := 1) (by have hz0 := hi6_2; have hz2 := dW_pos l p6; have hz3 := dW_le (of_decide_eq_true hc7);  have hq0 := of_decide_eq_true hc7; omega)]
    refine ops_done (by kernel_rfl) ?_
    have hq9 := of_decide_eq_true hc7
    have hw9 := dW_pos l p6
    have hv9 := dW_le hq9
    exact ⟨⟨m6 - 1, (q6 + 1, p6 + dW l p6), _, _, _, by omega, rfl, s, (List.Sublist.cons₂ _ List.Sublist.slnil), by kernel_rfl, hle5, by show l.length ≤ p6 + dW l p6 + (m6 - 1); omega, by have e9 := hi6_1; rw [steps_at hq9, List.length_cons] at e9; show q6 + 1 + (steps (l.drop (p6 + dW l p6))).length = nR l; omega, by show q6 + 1 ≤ p6 + dW l p6; have h8 := hi6_2; omega⟩⟩
  ·
    refine sem_rule (Instr.next (.pointer (some ⟨k4, 0, none⟩)) true 0) (some 6) (.tuple #[.bool false]) (by kernel_rfl) (next_end (k := k4) (pos := p6) (l := l) (ty := 0) s (of_decide_eq_false hc7)) ?_
    refine ops_rule (C := []) [(k4, .stringIter ⟨(l).toArray⟩ p6)] [] 1 [] 0 (fun φ12 => [(7, .bool false)]) (fun φ12 => [(k4, .stringIter ⟨(l).toArray⟩ p6)]) (fun φ12 => []) s trivial (fun φ12 => by kernel_rfl) ?_
    intro φ12 w12 s
    refine ops_done (by kernel_rfl) ?_
    refine wp_seq ?_
    refine cond_false_rule (b := false) (by kernel_rfl) rfl ?_
    refine wp_exit ?_
    refine wp_seq ?_
    refine region_rule ?_
    refine ops_rule (C := []) [(k4, .stringIter ⟨(l).toArray⟩ p6)] [] 2 [] 0 (fun φ13 => [(2, .int .i64 ((q6 : Nat) : Int)), (10, .int .i64 ((q6 : Nat) : Int))]) (fun φ13 => [(k4, .stringIter ⟨(l).toArray⟩ p6)]) (fun φ13 => []) s trivial (fun φ13 => by kernel_rfl) ?_
    intro φ13 w13 s
    refine ops_done (by kernel_rfl) ?_
    refine wp_ret ?_
    refine ret_rule (C := []) [(k4, .stringIter ⟨(l).toArray⟩ p6)] [] (.int .i64 ((q6 : Nat) : Int)) [] [] s trivial (by kernel_rfl) ?_
    exact ⟨_, _, _, rfl, s, (by have e9 := hi6_1; rw [steps_end (of_decide_eq_false hc7), List.length_nil, Nat.add_zero] at e9; rw [e9])⟩

end Go.Proofs.YtcpmjogeafhpnaaDoor.Tx

/- A byte as signs. -/
set_option linter.all false
set_option maxRecDepth 100000
namespace Go.Proofs.YtcpmjogeafhpnaaDoor.Tx
open Go.RowKit Go.Sep
theorem run_eqT {w : World} {t : TypeId} {x : List UInt8} : (binOp .eql t (.string ⟨x.toArray⟩) (.string ⟨x.toArray⟩)).run Tryd.prog w = .ok (.bool true) w := by
  rw [run_eqS, decide_eq_true rfl]
theorem ofNat_toNat (x : UInt8) : UInt8.ofNat x.toNat = x := by simp
end Go.Proofs.YtcpmjogeafhpnaaDoor.Tx

/-
  DERIVED: THE SHELF's CONTRACTS AT THIS DUMP, IN PLAIN WORDS (tools/lay-plain.mjs out of 'TrydShelf.lean', which tools/lay-shelf.mjs wrote): THE SAME DECLARATIONS UNDER THE SAME NAMES: 'import', 'namespace', 'open', 'def', 'theorem' AND NOTHING ELSE: no command of the shelf's: FOR A HAND-IN. Each laying: the table of numbers ('.._ren') and one theorem, a field a fact of the dump's own or the kernel's comparison; each contract: ONE APPLICATION.
-/
namespace Go.Proofs
open Go.Shelf
def Tryd.lays196_ren : Go.Shelf.Ren := ⟨fun | 196 => 99 | 259 => 118 | n => n, fun | 9 => 9 | 4 => 4 | 3 => 3 | 5 => 5 | 12 => 12 | 119 => 150 | 0 => 0 | 46 => 142 | 139 => 153 | 138 => 152 | 53 => 114 | n => n, fun | 3 => 1 | 4 => 2 | n => n⟩
theorem Tryd.lays196 : Go.Proofs.Lays.n196 Tryd.prog Tryd.lays196_ren := {
  mixed := by kernel_rfl
  f196 := Tryd.func99.trans (congrArg some (by kernel_rfl))
  f259 := Tryd.func118.trans (congrArg some (by kernel_rfl))
  t0 := Tryd.underlying0
  a0 := Tryd.isAgg0
  z0 := Tryd.sizeOf0
  v0 := Tryd.zeroValue0
  t3 := Tryd.underlying3
  a3 := Tryd.isAgg3
  z3 := Tryd.sizeOf3
  v3 := Tryd.zeroValue3
  t4 := Tryd.underlying4
  a4 := Tryd.isAgg4
  z4 := Tryd.sizeOf4
  v4 := Tryd.zeroValue4
  t5 := Tryd.underlying5
  a5 := Tryd.isAgg5
  z5 := Tryd.sizeOf5
  v5 := Tryd.zeroValue5
  t9 := Tryd.underlying9
  a9 := Tryd.isAgg9
  z9 := Tryd.sizeOf9
  v9 := Tryd.zeroValue9
  t12 := Tryd.underlying12
  a12 := Tryd.isAgg12
  z12 := Tryd.sizeOf12
  v12 := Tryd.zeroValue12
  t46 := Tryd.underlying142
  a46 := Tryd.isAgg142
  z46 := Tryd.sizeOf142
  v46 := Tryd.zeroValue142
  t53 := Tryd.underlying114
  a53 := Tryd.isAgg114
  z53 := Tryd.sizeOf114
  v53 := Tryd.zeroValue114
  t119 := Tryd.underlying150
  a119 := Tryd.isAgg150
  z119 := Tryd.sizeOf150
  t138 := Tryd.underlying152
  a138 := Tryd.isAgg152
  z138 := Tryd.sizeOf152
  v138 := Tryd.zeroValue152
  t139 := Tryd.underlying153
  a139 := Tryd.isAgg153
  z139 := Tryd.sizeOf153
  v139 := Tryd.zeroValue153
  g3 := by kernel_rfl
  g4 := by kernel_rfl }
open Go.RowKit in
/-- utf8.ValidString -/
theorem Tryd.utf8_ValidString (s : ByteArray) (w : World) (hs : s.size ≤ 9223372036854775807) (hT : Lib.Utf8Tabs 1 2 w) :
    Calls Tryd.prog 99 #[.string s] w fun e w' => e = .returned (.bool (Lib.validD s.data.toList)) ∧ Below w.heap.size w w' := Any.utf8_ValidString Tryd.lays196 s w hs hT
end Go.Proofs

/- utf8.ValidString. -/
set_option linter.all false
set_option maxRecDepth 100000
namespace Go.Proofs.YtcpmjogeafhpnaaDoor.Tx
open Go.RowKit Go.Sep
/-- the library's two tables are there -/
def U8 (I : IM) : Prop := ∀ w, I.Sub w → Lib.Utf8Tabs 1 2 w
theorem U8.mono {I J : IM} (le : I.Le J) (h : U8 I) : U8 J := fun w hw => h w (fun k o e => hw k o (le k o e))
theorem st_below {I : IM} {w w' : World} (hw : I.Sub w) (b : Below w.heap.size w w') : St w I [] I w' [] where
  sub k o e := (b.block k (hw.lt e)).trans (hw k o e)
  le := IM.Le.refl _
  new _ _ _ := rfl
  fr := ⟨b.os, b.tape, b.output, b.size, fun k hk _ => b.block k hk⟩
  own := by simp
  free := by simp
  fresh := by simp
  nodup := by simp
theorem valid_c {I : IM} {l : List UInt8} (hT : U8 I) (hn : l.length ≤ 1000000000) : Fun Tryd.prog 99 #[.string ⟨l.toArray⟩] I (fun v J => v = .bool (Lib.validD l)) := fun w hw =>
  (Tryd.utf8_ValidString ⟨l.toArray⟩ w (show l.length ≤ _ by omega) (hT w hw)).mono fun e w' ⟨he, b⟩ => by subst he; exact ⟨_, I, [], rfl, st_below hw b, rfl⟩
theorem ck_bad1 {l : List UInt8} {mi : Int} (h : ¬ ((l.length : Int) > mi)) (e : Lib.validD l = false) : Value.int .i64 7 = .int .i64 ((ckE l mi : Nat) : Int) := ck_bad h (by rw [okS_eq, e]; rfl)
theorem pl_bad {l : List UInt8} {p : Nat} (h : p < l.length) (hg : plainD (dR l p, dW l p) = false) (e : (steps l).all plainD = (steps (l.drop p)).all plainD) : okS l = false := by
  rw [okS_eq, e, steps_at h, List.all_cons, hg]; simp
theorem pl_end {l : List UInt8} {p : Nat} (h : ¬ p < l.length) (hv : Lib.validD l = true) (e : (steps l).all plainD = (steps (l.drop p)).all plainD) : okS l = true := by
  rw [okS_eq, e, steps_end h, hv]; rfl
theorem pl_go {l : List UInt8} {p : Nat} (h : p < l.length) (hg : plainD (dR l p, dW l p) = true) (e : (steps l).all plainD = (steps (l.drop p)).all plainD) : (steps l).all plainD = (steps (l.drop (p + dW l p))).all plainD := by
  rw [e, steps_at h, List.all_cons, hg]; rfl
theorem pl_1 {r w : Nat} (h : r < 32) : plainD (r, w) = false := by unfold plainD; simp [h]
theorem pl_2 {r w : Nat} (h : r = 127) : plainD (r, w) = false := by unfold plainD; simp [h]
theorem pl_3 {r w : Nat} (h : ¬ r < 32) (h2 : ¬ r = 127) : plainD (r, w) = true := by unfold plainD; simp [h, h2]
end Go.Proofs.YtcpmjogeafhpnaaDoor.Tx

/- The program's Check. -/
set_option linter.all false
set_option maxRecDepth 100000
namespace Go.Proofs.YtcpmjogeafhpnaaDoor.Tx
open Go.RowKit Go.Sep
attribute [local irreducible] Go.wpList Go.Code.wp

set_option maxHeartbeats 2000000 in
theorem check_c {I : IM} {l : List UInt8} (hT : U8 I) (hn : l.length ≤ 1000000) {mi : Int} : Fun Tryd.prog 60 #[.string ⟨(l).toArray⟩, .int .i64 mi] I (fun v J => v = .int .i64 ((ckE l mi : Nat) : Int)) := by
  refine enter_rule 25 [(0, .string ⟨(l).toArray⟩), (1, .int .i64 mi)] Tryd.func60 rfl (by kernel_rfl) ?_
  intro w s
  refine wp_seq ?_
  refine region_rule ?_
  refine ops_rule (C := []) [] [] 1 [] 0 (fun φ1 => [(4, .int .i64 0)]) (fun φ1 => []) (fun φ1 => []) s trivial (fun φ1 => by kernel_rfl) ?_
  intro φ1 w1 s
  refine ops_done (by kernel_rfl) ?_
  refine wp_seq ?_
  refine wp_seq ?_
  refine region_rule ?_
  refine ops_rule (C := []) [] [] 4 [] 0 (fun φ2 => [(10, .bool (decide (((l.length : Nat) : Int) > mi))), (9, .int .i64 mi), (8, .int .i64 ((l.length : Nat) : Int)), (7, .string ⟨(l).toArray⟩)]) (fun φ2 => []) (fun φ2 => []) s trivial (fun φ2 => by kernel_rfl) ?_
  intro φ2 w2 s
  refine ops_done (by kernel_rfl) ?_
  rcases Bool.eq_false_or_eq_true (decide (((l.length : Nat) : Int) > mi)) with hc3 | hc3
  ·
    rw [hc3]
    refine cond_true_rule (b := true) (by kernel_rfl) rfl ?_
    refine wp_seq ?_
    refine region_rule ?_
    refine ops_rule (C := []) [] [] 1 [] 0 (fun φ4 => [(4, .int .i64 9)]) (fun φ4 => []) (fun φ4 => []) s trivial (fun φ4 => by kernel_rfl) ?_
    intro φ4 w4 s
    refine ops_done (by kernel_rfl) ?_
    refine wp_ret ?_
    refine ret_rule (C := []) [] [] (.int .i64 9) [] [] s trivial (by kernel_rfl) ?_
    exact ⟨_, _, _, rfl, s, (ck_long (of_decide_eq_true hc3))⟩
  ·
    rw [hc3]
    refine cond_false_rule (b := false) (by kernel_rfl) rfl ?_
    refine wp_skip ?_
    refine wp_seq ?_
    refine wp_seq ?_
    refine region_rule ?_
    refine ops_rule (C := []) [] [] 1 [] 0 (fun φ5 => [(11, .string ⟨(l).toArray⟩)]) (fun φ5 => []) (fun φ5 => []) s trivial (fun φ5 => by kernel_rfl) ?_
    intro φ5 w5 s
    refine call_rule (some 12) s (valid_c (l := l) hT (by omega)) (by kernel_rfl) ?_
    intro v6 I6 w6 le6 h6 s
    replace hT := U8.mono le6 hT
    obtain rfl := h6
    refine ops_rule (C := []) [] [] 1 [] 0 (fun φ7 => [(13, .bool (!(Lib.validD l)))]) (fun φ7 => []) (fun φ7 => []) s trivial (fun φ7 => by kernel_rfl) ?_
    intro φ7 w7 s
    refine ops_done (by kernel_rfl) ?_
    rcases Bool.eq_false_or_eq_true (Lib.validD l) with hc8 | hc8
    ·
      rw [hc8]
      refine cond_false_rule (b := false) (by kernel_rfl) rfl ?_
      refine wp_skip ?_
      refine wp_seq ?_
      refine wp_seq ?_
      refine region_rule ?_
      refine ops_rule (C := []) [] [] 1 [] 0 (fun φ9 => [(14, .string ⟨(l).toArray⟩)]) (fun φ9 => []) (fun φ9 => []) s trivial (fun φ9 => by kernel_rfl) ?_
      intro φ9 w9 s
      obtain ⟨k10, w10, hr10, s⟩ := range_new (H := []) s ⟨(l).toArray⟩
      refine sem_rule (Instr.range 9 (.string ⟨(l).toArray⟩)) (some 15) (.pointer (some ⟨k10, 0, none⟩)) (by kernel_rfl) hr10 ?_
      refine ops_done (by kernel_rfl) ?_
      refine wp_block ?_
      have hle11 := IM.Le.refl I6
      refine loop_rule (fun (x : Nat) => [(0, .string ⟨(l).toArray⟩), (1, .int .i64 mi), (4, .int .i64 0), (15, .pointer (some ⟨k10, 0, none⟩))]) (fun (x : Nat) => [(k10, .stringIter ⟨(l).toArray⟩ x)]) (fun m (x : Nat) J => IM.Le I6 J ∧ l.length ≤ x + m ∧ (steps l).all plainD = (steps (l.drop x)).all plainD) (l.length) 0 s (by kernel_rfl) (List.Sublist.cons₂ _ List.Sublist.slnil) ⟨IM.Le.refl _, by omega, rfl⟩ ?_
      rintro m12 p12 I12 w12 ev12 s ⟨le12, hi12_0, hi12_1⟩
      try dsimp only at s hi12_0 hi12_1 ⊢
      replace hT := U8.mono le12 hT
      replace hle11 := leMono le12 hle11
      refine wp_seq ?_
      refine region_rule ?_
      rcases Bool.eq_false_or_eq_true (decide (p12 < l.length)) with hc13 | hc13
      ·
        obtain ⟨w14, hr14, s⟩ := next_own (k := k10) (pos := p12) (l := l) (ty := 0) s (of_decide_eq_true hc13)
        refine sem_rule (Instr.next (.pointer (some ⟨k10, 0, none⟩)) true 0) (some 16) (.tuple #[.bool true, .int .i64 ((p12 : Nat) : Int), .int .i32 ((dR l p12 : Nat) : Int)]) (by kernel_rfl) hr14 ?_
        refine ops_rule (C := []) [(k10, .stringIter ⟨(l).toArray⟩ (p12 + dW l p12))] [] 1 [] 0 (fun φ15 => [(17, .bool true)]) (fun φ15 => [(k10, .stringIter ⟨(l).toArray⟩ (p12 + dW l p12))]) (fun φ15 => []) s trivial (fun φ15 => by kernel_rfl) ?_
        intro φ15 w15 s
        refine ops_done (by kernel_rfl) ?_
        refine wp_seq ?_
        refine cond_true_rule (b := true) (by kernel_rfl) rfl ?_
        refine wp_skip ?_
        refine wp_block ?_
        refine wp_seq ?_
        refine region_rule ?_
        refine ops_rule (C := []) [(k10, .stringIter ⟨(l).toArray⟩ (p12 + dW l p12))] [] 2 [] 0 (fun φ16 => [(6, .int .i32 ((dR l p12 : Nat) : Int)), (18, .int .i32 ((dR l p12 : Nat) : Int))]) (fun φ16 => [(k10, .stringIter ⟨(l).toArray⟩ (p12 + dW l p12))]) (fun φ16 => []) s trivial (fun φ16 => by kernel_rfl) ?_
        intro φ16 w16 s
        refine ops_done (by kernel_rfl) ?_
        refine wp_seq ?_
        refine region_rule ?_
        refine ops_rule (C := []) [(k10, .stringIter ⟨(l).toArray⟩ (p12 + dW l p12))] [] 3 [] 0 (fun φ17 => [(21, .bool (decide (((dR l p12 : Nat) : Int) < ((32 : Nat) : Int)))), (20, .bool (decide (((dR l p12 : Nat) : Int) < ((32 : Nat) : Int)))), (19, .int .i32 ((dR l p12 : Nat) : Int))]) (fun φ17 => [(k10, .stringIter ⟨(l).toArray⟩ (p12 + dW l p12))]) (fun φ17 => []) s trivial (fun φ17 => by kernel_rfl) ?_
        intro φ17 w17 s
        rw [nat_lss (a := (dR l p12)) (b := 32)]
        rcases Bool.eq_false_or_eq_true (decide ((dR l p12) < 32)) with hc18 | hc18
        ·
          rw [hc18]
          refine ops_rule (C := []) [(k10, .stringIter ⟨(l).toArray⟩ (p12 + dW l p12))] [] 3 [] 0 (fun φ19 => [(24, .bool true), (23, undef), (22, undef)]) (fun φ19 => [(k10, .stringIter ⟨(l).toArray⟩ (p12 + dW l p12))]) (fun φ19 => []) s trivial (fun φ19 => by kernel_rfl) ?_
          intro φ19 w19 s
          refine ops_done (by kernel_rfl) ?_
          refine cond_true_rule (b := true) (by kernel_rfl) rfl ?_
          refine wp_seq ?_
          refine region_rule ?_
          refine ops_rule (C := []) [(k10, .stringIter ⟨(l).toArray⟩ (p12 + dW l p12))] [] 1 [] 0 (fun φ20 => [(4, .int .i64 7)]) (fun φ20 => [(k10, .stringIter ⟨(l).toArray⟩ (p12 + dW l p12))]) (fun φ20 => []) s trivial (fun φ20 => by kernel_rfl) ?_
          intro φ20 w20 s
          refine ops_done (by kernel_rfl) ?_
          refine wp_ret ?_
          refine ret_rule (C := []) [(k10, .stringIter ⟨(l).toArray⟩ (p12 + dW l p12))] [] (.int .i64 7) [] [] s trivial (by kernel_rfl) ?_
          exact ⟨_, _, _, rfl, s, (ck_bad (of_decide_eq_false hc3) (pl_bad (of_decide_eq_true hc13) (pl_1 (of_decide_eq_true hc18)) hi12_1))⟩
        ·
          rw [hc18]
          refine ops_rule (C := []) [(k10, .stringIter ⟨(l).toArray⟩ (p12 + dW l p12))] [] 3 [] 0 (fun φ21 => [(24, .bool (((dR l p12 : Nat) : Int) == ((127 : Nat) : Int))), (23, .bool (((dR l p12 : Nat) : Int) == ((127 : Nat) : Int))), (22, .int .i32 ((dR l p12 : Nat) : Int))]) (fun φ21 => [(k10, .stringIter ⟨(l).toArray⟩ (p12 + dW l p12))]) (fun φ21 => []) s trivial (fun φ21 => by kernel_rfl) ?_
          intro φ21 w21 s
          rw [nat_eql (a := (dR l p12)) (b := 127)]
          refine ops_done (by kernel_rfl) ?_
          rcases Bool.eq_false_or_eq_true (decide ((dR l p12) = 127)) with hc22 | hc22
          ·
            rw [hc22]
            refine cond_true_rule (b := true) (by kernel_rfl) rfl ?_
            refine wp_seq ?_
            refine region_rule ?_
            refine ops_rule (C := []) [(k10, .stringIter ⟨(l).toArray⟩ (p12 + dW l p12))] [] 1 [] 0 (fun φ23 => [(4, .int .i64 7)]) (fun φ23 => [(k10, .stringIter ⟨(l).toArray⟩ (p12 + dW l p12))]) (fun φ23 => []) s trivial (fun φ23 => by kernel_rfl) ?_
            intro φ23 w23 s
            refine ops_done (by kernel_rfl) ?_
            refine wp_ret ?_
            refine ret_rule (C := []) [(k10, .stringIter ⟨(l).toArray⟩ (p12 + dW l p12))] [] (.int .i64 7) [] [] s trivial (by kernel_rfl) ?_
            exact ⟨_, _, _, rfl, s, (ck_bad (of_decide_eq_false hc3) (pl_bad (of_decide_eq_true hc13) (pl_2 (of_decide_eq_true hc22)) hi12_1))⟩
          ·
            rw [hc22]
            refine cond_false_rule (b := false) (by kernel_rfl) rfl ?_
            refine wp_skip ?_
            have hq9 := of_decide_eq_true hc13
            have hw9 := dW_pos l p12
            have hv9 := dW_le hq9
            exact ⟨⟨m12 - 1, p12 + dW l p12, _, _, _, by omega, rfl, s, (List.Sublist.cons₂ _ List.Sublist.slnil), by kernel_rfl, hle11, by show l.length ≤ p12 + dW l p12 + (m12 - 1); omega, pl_go hq9 (pl_3 (of_decide_eq_false hc18) (of_decide_eq_false hc22)) hi12_1⟩⟩
      ·
        refine sem_rule (Instr.next (.pointer (some ⟨k10, 0, none⟩)) true 0) (some 16) (.tuple #[.bool false]) (by kernel_rfl) (next_end (k := k10) (pos := p12) (l := l) (ty := 0) s (of_decide_eq_false hc13)) ?_
        refine ops_rule (C := []) [(k10, .stringIter ⟨(l).toArray⟩ p12)] [] 1 [] 0 (fun φ25 => [(17, .bool false)]) (fun φ25 => [(k10, .stringIter ⟨(l).toArray⟩ p12)]) (fun φ25 => []) s trivial (fun φ25 => by kernel_rfl) ?_
        intro φ25 w25 s
        refine ops_done (by kernel_rfl) ?_
        refine wp_seq ?_
        refine cond_false_rule (b := false) (by kernel_rfl) rfl ?_
        refine wp_exit ?_
        refine wp_seq ?_
        refine region_rule ?_
        refine ops_rule (C := []) [(k10, .stringIter ⟨(l).toArray⟩ p12)] [] 1 [] 0 (fun φ26 => [(4, .int .i64 0)]) (fun φ26 => [(k10, .stringIter ⟨(l).toArray⟩ p12)]) (fun φ26 => []) s trivial (fun φ26 => by kernel_rfl) ?_
        intro φ26 w26 s
        refine ops_done (by kernel_rfl) ?_
        refine wp_ret ?_
        refine ret_rule (C := []) [(k10, .stringIter ⟨(l).toArray⟩ p12)] [] (.int .i64 0) [] [] s trivial (by kernel_rfl) ?_
        exact ⟨_, _, _, rfl, s, (ck_good (of_decide_eq_false hc3) (pl_end (of_decide_eq_false hc13) hc8 hi12_1))⟩
    ·
      rw [hc8]
      refine cond_true_rule (b := true) (by kernel_rfl) rfl ?_
      refine wp_seq ?_
      refine region_rule ?_
      refine ops_rule (C := []) [] [] 1 [] 0 (fun φ27 => [(4, .int .i64 7)]) (fun φ27 => []) (fun φ27 => []) s trivial (fun φ27 => by kernel_rfl) ?_
      intro φ27 w27 s
      refine ops_done (by kernel_rfl) ?_
      refine wp_ret ?_
      refine ret_rule (C := []) [] [] (.int .i64 7) [] [] s trivial (by kernel_rfl) ?_
      exact ⟨_, _, _, rfl, s, (ck_bad1 (of_decide_eq_false hc3) hc8)⟩

end Go.Proofs.YtcpmjogeafhpnaaDoor.Tx

/- Texts that are joined, and cut. -/
set_option linter.all false
set_option maxRecDepth 100000
namespace Go.Proofs.YtcpmjogeafhpnaaDoor.Tx
open Go.RowKit Go.Sep Go.Lib
theorem getD_takeU (l : List UInt8) (k i : Nat) (h : i < k) : (l.take k).getD i 0 = l.getD i 0 := by simp [List.getD, List.getElem?_take, h]
end Go.Proofs.YtcpmjogeafhpnaaDoor.Tx

/- Quoted bytes; a builder's calls. -/
set_option linter.all false
set_option maxRecDepth 100000
namespace Go.Proofs.YtcpmjogeafhpnaaDoor.Tx
open Go.RowKit Go.Sep
theorem take_snoc {l : List UInt8} {i : Nat} (h : i < l.length) : l.take (i + 1) = l.take i ++ [l.getD i 0] := by
  rw [List.take_succ, getD_some h]; rfl
section
variable {w0 : World} {I0 : IM} {I : IM}
end
end Go.Proofs.YtcpmjogeafhpnaaDoor.Tx

/- Blanks. -/
set_option linter.all false
set_option maxRecDepth 100000
namespace Go.Proofs.YtcpmjogeafhpnaaDoor.Tx
open Go.RowKit Go.Sep Go.Lib
/-- the words of a text -/
def wd : List UInt8 → List UInt8 → List (List UInt8)
  | acc, [] => if acc = [] then [] else [acc]
  | acc, b :: l => if b = 32 then (if acc = [] then wd [] l else acc :: wd [] l) else wd (acc ++ [b]) l
def fldS (l : List UInt8) : List UInt8 := join (wd [] l) [32]
theorem wd_lead (l : List UInt8) : wd [] (32 :: l) = wd [] l := by simp [wd]
theorem wd_end (a : UInt8) : ∀ (l acc : List UInt8), wd acc (l ++ [32]) = wd acc l
  | [], acc => by
    by_cases h : acc = []
    · subst h; simp [wd]
    · simp [wd, h]
  | b :: l, acc => by
    simp only [List.cons_append, wd, wd_end a l]
theorem wd_two : ∀ (x y acc : List UInt8), wd acc (x ++ 32 :: 32 :: y) = wd acc (x ++ 32 :: y)
  | [], y, acc => by
    by_cases h : acc = []
    · subst h; simp [wd]
    · simp [wd, h]
  | b :: x, y, acc => by
    simp only [List.cons_append, wd, wd_two x y]
theorem wd_plain : ∀ (x acc y : List UInt8), (∀ b ∈ x, b ≠ 32) → wd acc (x ++ y) = wd (acc ++ x) y
  | [], acc, y, _ => by simp
  | b :: x, acc, y, h => by
    have hb : ¬ b = 32 := h b (by simp)
    rw [List.cons_append]
    show (if b = 32 then _ else wd (acc ++ [b]) (x ++ y)) = _
    rw [if_neg hb, wd_plain x (acc ++ [b]) y (fun c hc => h c (by simp [hc])), List.append_assoc]
    rfl
theorem join_cc (x y : List UInt8) (r : List (List UInt8)) : join (x :: y :: r) [32] = x ++ 32 :: join (y :: r) [32] := by
  rw [join_cons, join_cons]; simp [joinTail]
theorem wd_len : ∀ (l acc : List UInt8), (join (wd acc l) [32]).length ≤ acc.length + l.length
  | [], acc => by
    by_cases h : acc = []
    · subst h; simp [wd, join_nil]
    · simp [wd, h, join_one]
  | b :: l, acc => by
    unfold wd
    by_cases hb : b = 32
    · rw [if_pos hb]
      have ih := wd_len l []
      by_cases h : acc = []
      · rw [if_pos h, List.length_cons]; simp at ih; omega
      · rw [if_neg h]
        cases e : wd [] l with
        | nil => rw [join_one, List.length_cons]; omega
        | cons y r => rw [e] at ih; rw [join_cc]; simp at ih ⊢; omega
    · rw [if_neg hb]
      have ih := wd_len l (acc ++ [b])
      rw [List.length_append, List.length_cons, List.length_nil] at ih
      rw [List.length_cons]; omega
theorem fldS_len (l : List UInt8) : (fldS l).length ≤ l.length := by have := wd_len l []; simpa [fldS] using this
/-- nothing to fold -/
def tidy : List UInt8 → Prop
  | [] => True
  | [b] => b ≠ 32
  | b :: c :: l => ¬ (b = 32 ∧ c = 32) ∧ tidy (c :: l)
theorem tidy_join : ∀ (l acc : List UInt8), tidy l → (acc = [] → ∀ b r, l = b :: r → b ≠ 32) → join (wd acc l) [32] = acc ++ l
  | [], acc, _, _ => by
    by_cases h : acc = []
    · subst h; simp [wd, join_nil]
    · simp [wd, h, join_one]
  | b :: l, acc, ht, hs => by
    have ht' : tidy l := by
      cases l with
      | nil => trivial
      | cons c l => exact ht.2
    unfold wd
    by_cases hb : b = 32
    · rw [if_pos hb]
      have ha : ¬ acc = [] := fun q => hs q b l rfl hb
      rw [if_neg ha]
      cases l with
      | nil => exact absurd hb ht
      | cons c l =>
        have hc : ¬ c = 32 := fun q => ht.1 ⟨hb, q⟩
        have ih := tidy_join (c :: l) [] ht' (fun _ b' r' e => by cases e; exact hc)
        cases e : wd [] (c :: l) with
        | nil => rw [e, join_nil] at ih; cases ih
        | cons y r => rw [e] at ih; rw [join_cc, ih, hb]; rfl
    · rw [if_neg hb]
      have ih := tidy_join l (acc ++ [b]) ht' (fun q => by simp at q)
      rw [ih]; simp
theorem fldS_tidy {l : List UInt8} (h : tidy l) (h0 : ∀ b r, l = b :: r → b ≠ 32) : fldS l = l := by
  have := tidy_join l [] h (fun _ => h0)
  simpa [fldS] using this
/-- a blank is a sign of its own -/
theorem dec_byte {l : List UInt8} {k : Nat} (hk : k < (decodeL l).2) (hg : badD (decodeL l) = false) (h1 : 1 ≤ k) : 128 ≤ (l.getD k 0).toNat := by
  have h := decodeL_N l
  rw [h] at hk
  rcases decodeN_shape l.length (l.getD 0 0).toNat (l.getD 1 0).toNat (l.getD 2 0).toNat (l.getD 3 0).toNat with ⟨c, e⟩ | ⟨c1, c2, c3, cv, e⟩ | ⟨c1, c2, c3, c4, cv, cs, e⟩ | ⟨c1, c2, c3, c4, c5, cv, cw, e⟩ | e
  · rw [e] at hk; dsimp only at hk; omega
  · rw [e] at hk; dsimp only at hk
    obtain rfl : k = 1 := by omega
    omega
  · rw [e] at hk; dsimp only at hk
    rcases (by omega : k = 1 ∨ k = 2) with rfl | rfl <;> omega
  · rw [e] at hk; dsimp only at hk
    rcases (by omega : k = 1 ∨ k = 2 ∨ k = 3) with rfl | rfl | rfl <;> omega
  · rw [e] at hk; dsimp only at hk; omega
theorem dec_32 {l : List UInt8} (h : (l.getD 0 0).toNat = 32) : decodeL l = (32, 1) := by
  rw [decodeL_N, h]; unfold decodeN; rw [if_pos (by decide)]
theorem dec_is32 {l : List UInt8} (h : (decodeL l).1 = 32) : (l.getD 0 0).toNat = 32 := by
  rw [decodeL_N] at h
  rcases decodeN_shape l.length (l.getD 0 0).toNat (l.getD 1 0).toNat (l.getD 2 0).toNat (l.getD 3 0).toNat with ⟨c, e⟩ | ⟨c1, c2, c3, cv, e⟩ | ⟨c1, c2, c3, c4, cv, cs, e⟩ | ⟨c1, c2, c3, c4, c5, cv, cw, e⟩ | e
  all_goals (rw [e] at h; dsimp only at h; omega)
theorem dec_one {l : List UInt8} (hb : badD (decodeL l) = true) : (decodeL l).2 = 1 := (of_decide_eq_true hb).2
end Go.Proofs.YtcpmjogeafhpnaaDoor.Tx

/- The library's fields are the words. -/
set_option linter.all false
set_option maxRecDepth 100000
namespace Go.Proofs.YtcpmjogeafhpnaaDoor.Tx
open Go.RowKit Go.Sep Go.Lib
def pB (r : Nat) : Bool := decide (r = 32)
def piece (l : List UInt8) (x : Nat × Nat) : List UInt8 := (l.drop x.1).take (x.2 - x.1)
def stL (l : List UInt8) (pos : Nat) : Option Nat → List UInt8
  | some a => piece l (a, pos)
  | none => []
theorem piece_ne {l : List UInt8} {a pos : Nat} (h : a < pos) (h2 : pos ≤ l.length) : piece l (a, pos) ≠ [] := fun e => by
  have := congrArg List.length e
  simp [piece] at this; omega
theorem piece_more {l : List UInt8} {a pos w : Nat} (h : a ≤ pos) : piece l (a, pos + w) = piece l (a, pos) ++ (l.drop pos).take w := by
  unfold piece
  dsimp only
  rw [show pos + w - a = (pos - a) + w by omega, List.take_add, List.drop_drop, show a + (pos - a) = pos by omega]
theorem sgn_no32 {l : List UInt8} {pos : Nat} (h : pos < l.length) (hr : ¬ (decodeL (l.drop pos)).1 = 32) : ∀ b ∈ (l.drop pos).take (decodeL (l.drop pos)).2, b ≠ 32 := by
  intro b hb e
  obtain ⟨k, hk, hbk⟩ := List.getElem_of_mem hb
  rw [List.length_take] at hk
  have hk2 : k < (decodeL (l.drop pos)).2 := by omega
  have hg : (l.drop pos).getD k 0 = 32 := by
    have h3 : k < (l.drop pos).length := by omega
    have h4 : (l.drop pos)[k] = b := by rw [← hbk, List.getElem_take]
    rw [← e, ← h4, List.getD, List.getElem?_eq_getElem h3]; rfl
  by_cases hk0 : k = 0
  · subst hk0
    exact hr (by rw [dec_32 (by rw [hg]; rfl)])
  · cases hbad : badD (decodeL (l.drop pos)) with
    | true => have := dec_one hbad; omega
    | false =>
      have := dec_byte hk2 hbad (by omega)
      rw [hg] at this; exact absurd this (by decide)
theorem getD_drop0 (l : List UInt8) (pos : Nat) : (l.drop pos).getD 0 0 = l.getD pos 0 := by simp [List.getD, List.getElem?_drop]
set_option maxHeartbeats 1000000 in
theorem spans_wd (l : List UInt8) : ∀ (f pos : Nat) (st : Option Nat) (acc : List (Nat × Nat)), l.length ≤ pos + f → (∀ a, st = some a → a < pos) → pos ≤ l.length →
    (closeSpans ⟨l.toArray⟩ (spansFromP pB ⟨l.toArray⟩ f pos st acc)).map (piece l) = acc.map (piece l) ++ wd (stL l pos st) (l.drop pos)
  | 0, pos, st, acc, hf, hs, hp => by
    have hpl : pos = l.length := by omega
    rw [List.drop_of_length_le (by omega)]
    cases st with
    | none => simp [spansFromP, closeSpans, stL, wd]
    | some a =>
      have hne := piece_ne (hs a rfl) hp
      show ((acc ++ [(a, l.length)]).map (piece l)) = _
      rw [← hpl]
      show _ = acc.map (piece l) ++ (if piece l (a, pos) = [] then [] else [piece l (a, pos)])
      rw [if_neg hne]; simp
  | f + 1, pos, st, acc, hf, hs, hp => by
    by_cases hlt : pos < l.length
    · have hsz : pos < (⟨l.toArray⟩ : ByteArray).size := hlt
      have hw := dW_pos l pos
      have hle := dW_le hlt
      unfold spansFromP
      rw [if_pos hsz, dec_at]
      by_cases hr : (decodeL (l.drop pos)).1 = 32
      · rw [show pB (decodeL (l.drop pos)).1 = true from decide_eq_true hr]
        have h32 := dec_is32 hr
        have hd : decodeL (l.drop pos) = (32, 1) := dec_32 h32
        have hb : l.getD pos 0 = 32 := by rw [← getD_drop0]; exact UInt8.toNat_inj.1 h32
        have hdr : l.drop pos = 32 :: l.drop (pos + 1) := by rw [drop_cons hlt, hb]
        rw [if_pos rfl, hd]
        cases st with
        | none =>
          dsimp only
          rw [spans_wd l f (pos + 1) none acc (by omega) (by simp) (by omega), hdr]
          simp [stL, wd]
        | some a =>
          dsimp only
          have hne := piece_ne (hs a rfl) hp
          rw [spans_wd l f (pos + 1) none (acc ++ [(a, pos)]) (by omega) (by simp) (by omega), hdr]
          show _ = acc.map (piece l) ++ (if (32 : UInt8) = 32 then (if piece l (a, pos) = [] then _ else piece l (a, pos) :: wd [] (l.drop (pos + 1))) else _)
          rw [if_pos rfl, if_neg hne]
          simp [stL]
      · rw [show pB (decodeL (l.drop pos)).1 = false from decide_eq_false hr]
        have hno := sgn_no32 hlt hr
        have hsp : l.drop pos = (l.drop pos).take (decodeL (l.drop pos)).2 ++ l.drop (pos + (decodeL (l.drop pos)).2) := by
          rw [← List.drop_drop, List.take_append_drop]
        have e2 : (decodeL (l.drop pos)).2 = dW l pos := rfl
        rw [if_neg (by simp)]
        cases st with
        | none =>
          dsimp only
          rw [spans_wd l f (pos + (decodeL (l.drop pos)).2) (some pos) acc (by omega) (fun a ha => by cases ha; omega) (by omega)]
          conv => rhs; rw [hsp, wd_plain _ _ _ hno]
          rw [show stL l (pos + (decodeL (l.drop pos)).2) (some pos) = piece l (pos, pos + (decodeL (l.drop pos)).2) from rfl, piece_more (Nat.le_refl _)]
          rw [show piece l (pos, pos) = [] by simp [piece]]
          rfl
        | some a =>
          dsimp only
          have ha := hs a rfl
          rw [spans_wd l f (pos + (decodeL (l.drop pos)).2) (some a) acc (by omega) (fun a' ha' => by cases ha'; omega) (by omega)]
          conv => rhs; rw [hsp, wd_plain _ _ _ hno]
          rw [show stL l (pos + (decodeL (l.drop pos)).2) (some a) = piece l (a, pos + (decodeL (l.drop pos)).2) from rfl, piece_more (by omega)]
          rfl
    · have hpl : pos = l.length := by omega
      rw [spansFromP_end pB ⟨l.toArray⟩ (f + 1) pos st acc hlt, List.drop_of_length_le (by omega)]
      cases st with
      | none => simp [closeSpans, stL, wd]
      | some a =>
        have hne := piece_ne (hs a rfl) hp
        show ((acc ++ [(a, l.length)]).map (piece l)) = _
        rw [← hpl]
        show _ = acc.map (piece l) ++ (if piece l (a, pos) = [] then [] else [piece l (a, pos)])
        rw [if_neg hne]; simp
theorem fields_wd (l : List UInt8) : (goFieldsP pB ⟨l.toArray⟩).map (·.data.toList) = wd [] l := by
  unfold goFieldsP spansOfP
  rw [List.map_map]
  have h := spans_wd l l.length 0 none [] (by omega) (by simp) (by omega)
  have e : ((·.data.toList) ∘ fun x : Nat × Nat => (⟨l.toArray⟩ : ByteArray).extract x.1 x.2) = piece l := by
    funext x
    show ((⟨l.toArray⟩ : ByteArray).extract x.1 x.2).data.toList = _
    rw [mid_string]; rfl
  rw [e]
  rw [List.map_nil, List.nil_append, List.drop_zero] at h
  exact h
end Go.Proofs.YtcpmjogeafhpnaaDoor.Tx

/- strings.Join and FieldsFunc at this program: each one application of the kit's. -/
set_option linter.all false
namespace Go.Proofs
open Go.Shelf
def Tryd.lays156_ren : Go.Shelf.Ren := ⟨fun | 156 => 119 | 165 => 130 | 166 => 131 | 169 => 132 | 240 => 138 | 241 => 139 | 276 => 144 | 277 => 145 | n => n, fun | 31 => 46 | 9 => 9 | 3 => 3 | 4 => 4 | 0 => 0 | 20 => 20 | 72 => 163 | 76 => 167 | 70 => 161 | 37 => 61 | 75 => 166 | 127 => 173 | 164 => 174 | 5 => 5 | 80 => 48 | n => n, fun | n => n⟩
theorem Tryd.lays156 : Go.Proofs.Lays.n156 Tryd.prog Tryd.lays156_ren := {
  mixed := by kernel_rfl
  f156 := Tryd.func119.trans (congrArg some (by kernel_rfl))
  f165 := Tryd.func130.trans (congrArg some (by kernel_rfl))
  f166 := Tryd.func131.trans (congrArg some (by kernel_rfl))
  f169 := Tryd.func132.trans (congrArg some (by kernel_rfl))
  f240 := Tryd.func138.trans (congrArg some (by kernel_rfl))
  f241 := Tryd.func139.trans (congrArg some (by kernel_rfl))
  f276 := Tryd.func144.trans (congrArg some (by kernel_rfl))
  f277 := Tryd.func145.trans (congrArg some (by kernel_rfl))
  t0 := Tryd.underlying0
  a0 := Tryd.isAgg0
  z0 := Tryd.sizeOf0
  v0 := Tryd.zeroValue0
  t3 := Tryd.underlying3
  a3 := Tryd.isAgg3
  z3 := Tryd.sizeOf3
  v3 := Tryd.zeroValue3
  t4 := Tryd.underlying4
  a4 := Tryd.isAgg4
  z4 := Tryd.sizeOf4
  v4 := Tryd.zeroValue4
  t9 := Tryd.underlying9
  a9 := Tryd.isAgg9
  z9 := Tryd.sizeOf9
  v9 := Tryd.zeroValue9
  t20 := Tryd.underlying20
  a20 := Tryd.isAgg20
  z20 := Tryd.sizeOf20
  v20 := Tryd.zeroValue20
  t31 := Tryd.underlying46
  a31 := Tryd.isAgg46
  z31 := Tryd.sizeOf46
  v31 := Tryd.zeroValue46
  t37 := Tryd.underlying61
  a37 := Tryd.isAgg61
  z37 := Tryd.sizeOf61
  v37 := Tryd.zeroValue61
  t70 := Tryd.underlying161
  a70 := Tryd.isAgg161
  z70 := Tryd.sizeOf161
  v70 := Tryd.zeroValue161
  t72 := Tryd.underlying163
  a72 := Tryd.isAgg163
  z72 := Tryd.sizeOf163
  v72 := Tryd.zeroValue163
  t75 := Tryd.underlying166
  a75 := Tryd.isAgg166
  z75 := Tryd.sizeOf166
  v75 := Tryd.zeroValue166
  t76 := Tryd.underlying167
  a76 := Tryd.isAgg167
  z76 := Tryd.sizeOf167
  v76 := Tryd.zeroValue167
  t127 := Tryd.underlying173
  a127 := Tryd.isAgg173
  z127 := Tryd.sizeOf173
  v127 := Tryd.zeroValue173
  t164 := Tryd.underlying174
  a164 := Tryd.isAgg174
  z164 := Tryd.sizeOf174
  v164 := Tryd.zeroValue174 }
theorem Tryd.Builder_Extra_156 : Builder.Extra Tryd.prog Tryd.lays156_ren := {
  sizeBuilder := by kernel_rfl
  liesBuilder := by kernel_rfl
  t5 := Tryd.underlying5
  a5 := Tryd.isAgg5
  z5 := Tryd.sizeOf5
  v5 := Tryd.zeroValue5
  infoByte := by kernel_rfl
  cellsByte := by kernel_rfl
  sizeByte := by kernel_rfl
  neB5 := by decide }
open Go.RowKit in
/-- strings.Join: "Join concatenates the elements of its first argument to create a single string. The separator string sep is placed between elements in the resulting string.": HOWEVER MANY ELEMENTS. Below the heap's end the world is as it was. (LAID: no walk: one application.) -/
theorem Tryd.strings_Join (bk o c : Nat) (xs : List ByteArray) (sep : ByteArray) (w : World) (hcells : ∀ (j : Nat) x, xs[j]? = some x → w.cell? ⟨bk, o + j, none⟩ = some (.string x)) (hbk : bk < w.heap.size) (hN : xs.length ≤ 140737488355328) (hcap : xs.length ≤ c) (hlen : (Lib.join (xs.map (·.data.toList)) sep.data.toList).length ≤ 140737488355328) :
    Calls Tryd.prog 119 #[.slice (some ⟨bk, o, none⟩) xs.length c, .string sep] w fun e w' => e = .returned (.string ⟨(Lib.join (xs.map (·.data.toList)) sep.data.toList).toArray⟩) ∧ Below w.heap.size w w' := Any.strings_Join Tryd.lays156 Tryd.Builder_Extra_156 bk o c xs sep w hcells hbk hN hcap hlen
def Tryd.lays229_ren : Go.Shelf.Ren := ⟨fun | 229 => 120 | n => n, fun | 9 => 9 | 40 => 156 | 31 => 46 | 152 => 169 | 3 => 3 | 0 => 0 | 4 => 4 | 21 => 21 | 154 => 171 | n => n, fun | n => n⟩
theorem Tryd.lays229 : Go.Proofs.Lays.n229 Tryd.prog Tryd.lays229_ren := {
  mixed := by kernel_rfl
  f229 := Tryd.func120.trans (congrArg some (by kernel_rfl))
  t0 := Tryd.underlying0
  a0 := Tryd.isAgg0
  z0 := Tryd.sizeOf0
  v0 := Tryd.zeroValue0
  t3 := Tryd.underlying3
  a3 := Tryd.isAgg3
  z3 := Tryd.sizeOf3
  v3 := Tryd.zeroValue3
  t4 := Tryd.underlying4
  a4 := Tryd.isAgg4
  z4 := Tryd.sizeOf4
  v4 := Tryd.zeroValue4
  t9 := Tryd.underlying9
  a9 := Tryd.isAgg9
  z9 := Tryd.sizeOf9
  v9 := Tryd.zeroValue9
  t21 := Tryd.underlying21
  a21 := Tryd.isAgg21
  z21 := Tryd.sizeOf21
  v21 := Tryd.zeroValue21
  t31 := Tryd.underlying46
  a31 := Tryd.isAgg46
  z31 := Tryd.sizeOf46
  v31 := Tryd.zeroValue46
  t40 := Tryd.underlying156
  a40 := Tryd.isAgg156
  z40 := Tryd.sizeOf156
  v40 := Tryd.zeroValue156
  t152 := Tryd.underlying169
  a152 := Tryd.isAgg169
  z152 := Tryd.sizeOf169
  v152 := Tryd.zeroValue169
  t154 := Tryd.underlying171
  a154 := Tryd.isAgg171
  z154 := Tryd.sizeOf171
  v154 := Tryd.zeroValue171 }
open Go.RowKit Go.Lib in
theorem Tryd.strings_FieldsFunc_runes (g : Nat) (lb : Array Value) (eg : ∀ args w, (callFunc g args).run Tryd.prog w = .ok (.enter g args) w) (p : Nat → Bool) (s : ByteArray) (w : World) (hs : s.size ≤ 4294967296) (hp : PredAtRunes Tryd.prog g lb p w) :
    Calls Tryd.prog 120 #[.string s, .func (.func g) #[] lb] w fun e w' => ∃ A, e = .returned (.slice (some ⟨A, 0, none⟩) (Lib.goFieldsP p s).length (Lib.goFieldsP p s).length) ∧ w.heap.size ≤ A ∧
      w'.ownsRow w.heap.size 9 1 (.slice (some ⟨A, 0, none⟩) (Lib.goFieldsP p s).length (Lib.goFieldsP p s).length) (Lib.goFieldsP p s).length ((Lib.goFieldsP p s).map Value.string) ∧ Below w.heap.size w w' := Any.strings_FieldsFunc_runes Tryd.lays229 g lb eg p s w hs hp (by kernel_rfl) (by kernel_rfl)
end Go.Proofs

/- Fold's calls. -/
set_option linter.all false
set_option maxRecDepth 100000
namespace Go.Proofs.YtcpmjogeafhpnaaDoor.Tx
open Go.RowKit Go.Sep
theorem blank_calls (x : Nat) (W : World) : Calls Tryd.prog 121 #[.int .i32 ((x : Nat) : Int)] W fun e w' => e = .returned (.bool (pB x)) ∧ ∃ q, w' = W.drewN q := by
  have e : (((x : Nat) : Int) == 32) = pB x := by
    unfold pB
    by_cases h : x = 32
    · subst h; rfl
    · rw [decide_eq_false h]; simp; omega
  rw [← e]
  go_enter Tryd.func121, Tryd.ntmps121
  go_wp2
  go_ret
  exact ⟨by rw [e]; rfl, 0, rfl⟩
theorem blank_enters : ∀ args w, (callFunc 121 args).run Tryd.prog w = .ok (.enter 121 args) w := enters_of Tryd.func121 (by kernel_rfl) rfl
def fN (l : List UInt8) : Nat := (Lib.goFieldsP pB ⟨l.toArray⟩).length
theorem wd_cnt : ∀ (l acc : List UInt8), (wd acc l).length ≤ l.length + 1
  | [], acc => by
    by_cases h : acc = []
    · subst h; simp [wd]
    · simp [wd, h]
  | b :: l, acc => by
    unfold wd
    have h1 := wd_cnt l []
    have h2 := wd_cnt l (acc ++ [b])
    split
    · split
      · rw [List.length_cons]; omega
      · rw [List.length_cons, List.length_cons]; omega
    · rw [List.length_cons]; omega
theorem fN_le (l : List UInt8) : fN l ≤ l.length + 1 := by
  have := wd_cnt l []
  rw [← fields_wd, List.length_map] at this; exact this
theorem fields_c {I : IM} {l : List UInt8} (hn : l.length ≤ 1000000) : Fun Tryd.prog 120 #[.string ⟨l.toArray⟩, .func (.func 121) #[] #[]] I (fun v J => ∃ A cur, v = .slice (some ⟨A, 0, none⟩) (fN l) (fN l) ∧ J A = some (.cells cur 9) ∧ cur.toList.take (fN l) = (Lib.goFieldsP pB ⟨l.toArray⟩).map Value.string) := fun w hw => by
  refine (Tryd.strings_FieldsFunc_runes 121 #[] blank_enters pB ⟨l.toArray⟩ w (show l.length ≤ 4294967296 by omega) (fun W x _ _ => blank_calls x W)).mono ?_
  rintro e w' ⟨A, rfl, hA, hrow, b⟩
  rcases hrow.2 with ⟨h, _⟩ | ⟨g, cap, cur, hv, hg2, hg, hnc, hcm, hcs, ht⟩
  · cases h
  · cases hv
    refine ⟨_, I.add A (.cells cur 9), [], rfl, ⟨fun k o e => ?_, ?_, fun k hk _ => ?_, ⟨b.os, b.tape, b.output, b.size, fun k hk _ => b.block k hk⟩, by simp, by simp, by simp, by simp⟩, A, cur, rfl, IM.add_self _ _ _, ?_⟩
    · unfold IM.add at e
      split at e
      · rename_i q; subst q; cases e; exact hg
      · exact (b.block k (hw.lt e)).trans (hw k o e)
    · refine IM.le_add ?_ _
      cases q : I A with
      | none => rfl
      | some o => exact absurd (hw.lt q) (by omega)
    · unfold IM.add; rw [if_neg (by omega)]
    · rw [Nat.mul_one] at ht; exact ht
theorem join_c {J : IM} {A : Nat} {cur : Array Value} {l : List UInt8} (hn : l.length ≤ 1000000) (hA : J A = some (.cells cur 9)) (hc : cur.toList.take (fN l) = (Lib.goFieldsP pB ⟨l.toArray⟩).map Value.string) :
    Fun Tryd.prog 119 #[.slice (some ⟨A, 0, none⟩) (fN l) (fN l), .string ⟨([32] : List UInt8).toArray⟩] J (fun v _ => v = .string ⟨(fldS l).toArray⟩) := fun w hw => by
  have hl := fN_le l
  have hf := fldS_len l
  have e0 : Lib.join ((Lib.goFieldsP pB ⟨l.toArray⟩).map (·.data.toList)) [32] = fldS l := by rw [fields_wd]; rfl
  refine (Tryd.strings_Join A 0 (fN l) (Lib.goFieldsP pB ⟨l.toArray⟩) ⟨([32] : List UInt8).toArray⟩ w (fun j x hx => ?_) (hw.lt hA) (show fN l ≤ _ by omega) (Nat.le_refl _) (by
    show (Lib.join ((Lib.goFieldsP pB ⟨l.toArray⟩).map (·.data.toList)) [32]).length ≤ _
    rw [e0]; omega)).mono ?_
  · rw [run_cell (a := ⟨A, 0 + j, none⟩) (hw _ _ hA) rfl rfl]
    have hj : j < fN l := (List.getElem?_eq_some_iff.1 hx).1
    have h2 : (cur.toList.take (fN l))[j]? = some (.string x) := by rw [hc, List.getElem?_map, hx]; rfl
    rw [List.getElem?_take, if_pos hj] at h2
    rw [Nat.zero_add]; simpa using h2
  · rintro e w' ⟨rfl, b⟩
    exact ⟨_, J, [], rfl, st_below hw b, by
      show Value.string ⟨(Lib.join ((Lib.goFieldsP pB ⟨l.toArray⟩).map (·.data.toList)) [32]).toArray⟩ = _
      rw [e0]⟩
end Go.Proofs.YtcpmjogeafhpnaaDoor.Tx


/- The document asks for the end of bits. -/
import Derived.Test.YtpnlaeapnokipaaGW28
set_option linter.all false
set_option maxRecDepth 100000
namespace Go.Proofs.Ytpnlaeapnokipaa
open Go.RowKit Go.Sep
attribute [local irreducible] Go.wpList Go.Code.wp

def endQ (bs : List Bool) (i : Nat) : Nat := if 8 ≤ bs.length ∨ anyB bs i = true then 6 else 0
theorem endQ_one {bs : List Bool} {i : Nat} (h : i < bs.length) (hb : bs.getD i false = true) : (6 : Nat) = endQ bs (i + 1) := by
  unfold endQ; rw [if_pos (.inr (by rw [anyB_succ h, hb]; simp))]
theorem endQ_nil {bs : List Bool} {i : Nat} (h : i < bs.length) (hb : bs.getD i false = false) : endQ bs i = endQ bs (i + 1) := by
  unfold endQ; rw [anyB_succ h, hb, Bool.or_false]
theorem endQ_six {bs : List Bool} (h : 8 ≤ bs.length) : (6 : Nat) = endQ bs 0 := by unfold endQ; rw [if_pos (.inl h)]
theorem endQ_nought {bs : List Bool} (h : ¬ 8 ≤ bs.length) : (0 : Nat) = endQ bs 0 := by unfold endQ; rw [if_neg (by simp [anyB]; omega)]
theorem endQ_all {bs : List Bool} : endQ bs bs.length = beE bs 0 := by unfold endQ beE; simp

set_option maxHeartbeats 2000000 in
theorem refEndB_c {I : IM} {bs : List Bool} {a : Option Addr} {n c y e : Nat} (hb : BoS I bs (.slice a n c)) (hn9 : bs.length ≤ 1000000) : FunM Try.prog 34 #[.pointer (some ⟨y, 0, none⟩)] I [(y, .cells #[.slice a n c, .int .i64 ((e : Nat) : Int)] 50)] (fun v J H' => ∃ b' : OB, H' = [b'] ∧ b'.1 = y ∧ v = .int .i64 ((beE bs e : Nat) : Int) ∧ b' = (y, .cells #[.slice a n c, .int .i64 ((beE bs e : Nat) : Int)] 50)) := by
  obtain ⟨rfl, -⟩ := hb.cap
  refine enterM_rule 37 [(0, .pointer (some ⟨y, 0, none⟩))] Try.func34 rfl (by kernel_rfl) ?_
  intro w s
  refine wp_seq ?_
  refine region_rule ?_
  refine ops_rule (C := []) [(y, .cells #[.slice a bs.length c, .int .i64 ((e : Nat) : Int)] 50)] [] 1 [] 0 (fun φ1 => [(2, .int .i64 0)]) (fun φ1 => [(y, .cells #[.slice a bs.length c, .int .i64 ((e : Nat) : Int)] 50)]) (fun φ1 => []) s trivial (fun φ1 => by kernel_rfl) ?_
  intro φ1 w1 s
  refine ops_done (by kernel_rfl) ?_
  refine wp_seq ?_
  refine wp_seq ?_
  refine region_rule ?_
  refine ops_rule (C := []) [(y, .cells #[.slice a bs.length c, .int .i64 ((e : Nat) : Int)] 50)] [] 5 [.o 0] 0 (fun φ2 => [(9, .bool (((e : Nat) : Int) == ((0 : Nat) : Int))), (8, .int .i64 ((e : Nat) : Int)), (7, .pointer (some ⟨y, 1, none⟩)), (6, .pointer (some ⟨y, 0, none⟩)), (5, .pointer (some ⟨y, 0, none⟩))]) (fun φ2 => [(y, .cells #[.slice a bs.length c, .int .i64 ((e : Nat) : Int)] 50)]) (fun φ2 => [y]) s trivial (fun φ2 => by kernel_rfl) ?_
  intro φ2 w2 s
  rw [nat_eql (a := e) (b := 0)]
  refine ops_done (by kernel_rfl) ?_
  rcases Bool.eq_false_or_eq_true (decide (e = 0)) with hc3 | hc3
  ·
    rw [hc3]
    refine cond_true_rule (b := true) (by kernel_rfl) rfl ?_
    refine wp_seq ?_
    refine wp_seq ?_
    refine region_rule ?_
    refine ops_rule (C := []) [(y, .cells #[.slice a bs.length c, .int .i64 ((e : Nat) : Int)] 50)] [] 6 [.o 0] 0 (fun φ4 => [(15, .bool (decide (((bs.length : Nat) : Int) ≥ ((8 : Nat) : Int)))), (14, .int .i64 ((bs.length : Nat) : Int)), (13, .slice a bs.length c), (12, .pointer (some ⟨y, 0, none⟩)), (11, .pointer (some ⟨y, 0, none⟩)), (10, .pointer (some ⟨y, 0, none⟩))]) (fun φ4 => [(y, .cells #[.slice a bs.length c, .int .i64 ((e : Nat) : Int)] 50)]) (fun φ4 => [y]) s trivial (fun φ4 => by kernel_rfl) ?_
    intro φ4 w4 s
    rw [nat_geq (a := bs.length) (b := 8)]
    refine ops_done (by kernel_rfl) ?_
    rcases Bool.eq_false_or_eq_true (decide (8 ≤ bs.length)) with hc5 | hc5
    ·
      rw [hc5]
      refine cond_true_rule (b := true) (by kernel_rfl) rfl ?_
      refine region_rule ?_
      refine ops_rule (C := []) [(y, .cells #[.slice a bs.length c, .int .i64 ((e : Nat) : Int)] 50)] [] 4 [.o 0] 0 (fun φ6 => [(18, .pointer (some ⟨y, 1, none⟩)), (17, .pointer (some ⟨y, 0, none⟩)), (16, .pointer (some ⟨y, 0, none⟩))]) (fun φ6 => [(y, .cells #[.slice a bs.length c, .int .i64 6] 50)]) (fun φ6 => [y]) s trivial (fun φ6 => by kernel_rfl) ?_
      intro φ6 w6 s
      refine ops_done (by kernel_rfl) ?_
      refine wp_seq ?_
      refine region_rule ?_
      refine ops_rule (C := []) [(y, .cells #[.slice a bs.length c, .int .i64 6] 50)] [] 6 [.o 0] 0 (fun φ7 => [(24, .int .i64 0), (23, .int .i64 ((bs.length : Nat) : Int)), (22, .slice a bs.length c), (21, .pointer (some ⟨y, 0, none⟩)), (20, .pointer (some ⟨y, 0, none⟩)), (19, .pointer (some ⟨y, 0, none⟩))]) (fun φ7 => [(y, .cells #[.slice a bs.length c, .int .i64 6] 50)]) (fun φ7 => [y]) s trivial (fun φ7 => by kernel_rfl) ?_
      intro φ7 w7 s
      refine ops_done (by kernel_rfl) ?_
      refine wp_block ?_
      have hle8 := IM.Le.refl I
      refine loop_rule (fun (x : Nat × Nat) => [(0, .pointer (some ⟨y, 0, none⟩)), (22, .slice a bs.length c), (23, .int .i64 ((bs.length : Nat) : Int)), (24, .int .i64 ((x.1 : Nat) : Int))]) (fun (x : Nat × Nat) => [(y, .cells #[.slice a bs.length c, .int .i64 ((x.2 : Nat) : Int)] 50)]) (fun m (x : Nat × Nat) J => IM.Le I J ∧ x.1 + m = bs.length ∧ x.2 = endQ bs x.1) (bs.length) (0, 6) s (by kernel_rfl) (List.Sublist.cons₂ _ List.Sublist.slnil) ⟨IM.Le.refl _, Nat.zero_add _, endQ_six (of_decide_eq_true hc5)⟩ ?_
      rintro m9 ⟨i9, q9⟩ I9 w9 ev9 s ⟨le9, hi9_0, hi9_1⟩
      try dsimp only at s hi9_0 hi9_1 ⊢
      replace hb := BoS.mono le9 hb
      replace hle8 := leMono le9 hle8
      refine wp_seq ?_
      refine region_rule ?_
      refine ops_rule (C := []) [(y, .cells #[.slice a bs.length c, .int .i64 ((q9 : Nat) : Int)] 50)] [] 1 [] 0 (fun φ10 => [(25, .bool (decide (((i9 : Nat) : Int) < ((bs.length : Nat) : Int))))]) (fun φ10 => [(y, .cells #[.slice a bs.length c, .int .i64 ((q9 : Nat) : Int)] 50)]) (fun φ10 => []) s trivial (fun φ10 => by kernel_rfl) ?_
      intro φ10 w10 s
      rw [nat_lss (a := i9) (b := bs.length)]
      refine ops_done (by kernel_rfl) ?_
      refine wp_seq ?_
      rcases Bool.eq_false_or_eq_true (decide (i9 < bs.length)) with hc11 | hc11
      ·
        rw [hc11]
        refine cond_true_rule (b := true) (by kernel_rfl) rfl ?_
        refine wp_skip ?_
        refine wp_seq ?_
        refine wp_block ?_
        refine wp_seq ?_
        refine region_rule ?_
        refine sem_rule (Instr.indexAt 26 (.slice a bs.length c) (.int .i64 ((i9 : Nat) : Int))) (some 26) (.pointer (pAt a i9)) (by kernel_rfl) (bos_idx hb (by  have hq0 := of_decide_eq_true hc3; have hq1 := of_decide_eq_true hc5; have hq2 := of_decide_eq_true hc11; omega)) ?_
        refine sem_rule (Instr.loadAt 4 (.pointer (pAt a i9))) (some 27) (.bool (bs.getD i9 false)) (by kernel_rfl) (bos_ld s.sub hb (by  have hq0 := of_decide_eq_true hc3; have hq1 := of_decide_eq_true hc5; have hq2 := of_decide_eq_true hc11; omega)) ?_
        refine ops_rule (C := []) [(y, .cells #[.slice a bs.length c, .int .i64 ((q9 : Nat) : Int)] 50)] [] 1 [] 0 (fun φ12 => [(4, .bool (bs.getD i9 false))]) (fun φ12 => [(y, .cells #[.slice a bs.length c, .int .i64 ((q9 : Nat) : Int)] 50)]) (fun φ12 => []) s trivial (fun φ12 => by kernel_rfl) ?_
        intro φ12 w12 s
        refine ops_done (by kernel_rfl) ?_
        refine wp_seq ?_
        refine region_rule ?_
        refine ops_rule (C := []) [(y, .cells #[.slice a bs.length c, .int .i64 ((q9 : Nat) : Int)] 50)] [] 1 [] 0 (fun φ13 => [(28, .bool (bs.getD i9 false))]) (fun φ13 => [(y, .cells #[.slice a bs.length c, .int .i64 ((q9 : Nat) : Int)] 50)]) (fun φ13 => []) s trivial (fun φ13 => by kernel_rfl) ?_
        intro φ13 w13 s
        refine ops_done (by kernel_rfl) ?_
        rcases Bool.eq_false_or_eq_true (bs.getD i9 false) with hc14 | hc14
        ·
          rw [hc14]
          refine cond_true_rule (b := true) (by kernel_rfl) rfl ?_
          refine region_rule ?_
          refine ops_rule (C := []) [(y, .cells #[.slice a bs.length c, .int .i64 ((q9 : Nat) : Int)] 50)] [] 4 [.o 0] 0 (fun φ15 => [(31, .pointer (some ⟨y, 1, none⟩)), (30, .pointer (some ⟨y, 0, none⟩)), (29, .pointer (some ⟨y, 0, none⟩))]) (fun φ15 => [(y, .cells #[.slice a bs.length c, .int .i64 6] 50)]) (fun φ15 => [y]) s trivial (fun φ15 => by kernel_rfl) ?_
          intro φ15 w15 s
          refine ops_done (by kernel_rfl) ?_
          refine region_rule ?_
          refine ops_rule (C := []) [(y, .cells #[.slice a bs.length c, .int .i64 6] 50)] [] 2 [] 0 (fun φ16 => [(24, .int .i64 (IntKind.wrap .i64 (((i9 : Nat) : Int) + ((1 : Nat) : Int)))), (32, .int .i64 (IntKind.wrap .i64 (((i9 : Nat) : Int) + ((1 : Nat) : Int))))]) (fun φ16 => [(y, .cells #[.slice a bs.length c, .int .i64 6] 50)]) (fun φ16 => []) s trivial (fun φ16 => by kernel_rfl) ?_
          intro φ16 w16 s
          rw [nat_addI (a := i9) (b := 1) (by  have hq0 := of_decide_eq_true hc3; have hq1 := of_decide_eq_true hc5; have hq2 := of_decide_eq_true hc11; omega)]
          refine ops_done (by kernel_rfl) ?_
          have hq9 := of_decide_eq_true hc11
          exact ⟨⟨m9 - 1, (i9 + 1, 6), _, _, _, by omega, rfl, s, (List.Sublist.cons₂ _ List.Sublist.slnil), by kernel_rfl, hle8, by show i9 + 1 + (m9 - 1) = bs.length; omega, endQ_one hq9 hc14⟩⟩
        ·
          rw [hc14]
          refine cond_false_rule (b := false) (by kernel_rfl) rfl ?_
          refine wp_skip ?_
          refine region_rule ?_
          refine ops_rule (C := []) [(y, .cells #[.slice a bs.length c, .int .i64 ((q9 : Nat) : Int)] 50)] [] 2 [] 0 (fun φ17 => [(24, .int .i64 (IntKind.wrap .i64 (((i9 : Nat) : Int) + ((1 : Nat) : Int)))), (32, .int .i64 (IntKind.wrap .i64 (((i9 : Nat) : Int) + ((1 : Nat) : Int))))]) (fun φ17 => [(y, .cells #[.slice a bs.length c, .int .i64 ((q9 : Nat) : Int)] 50)]) (fun φ17 => []) s trivial (fun φ17 => by kernel_rfl) ?_
          intro φ17 w17 s
          rw [nat_addI (a := i9) (b := 1) (by  have hq0 := of_decide_eq_true hc3; have hq1 := of_decide_eq_true hc5; have hq2 := of_decide_eq_true hc11; omega)]
          refine ops_done (by kernel_rfl) ?_
          have hq9 := of_decide_eq_true hc11
          exact ⟨⟨m9 - 1, (i9 + 1, q9), _, _, _, by omega, rfl, s, (List.Sublist.cons₂ _ List.Sublist.slnil), by kernel_rfl, hle8, by show i9 + 1 + (m9 - 1) = bs.length; omega, hi9_1.trans (endQ_nil hq9 hc14)⟩⟩
      ·
        rw [hc11]
        refine cond_false_rule (b := false) (by kernel_rfl) rfl ?_
        refine wp_exit ?_
        refine wp_seq ?_
        refine region_rule ?_
        refine ops_rule (C := []) [(y, .cells #[.slice a bs.length c, .int .i64 ((q9 : Nat) : Int)] 50)] [] 5 [.o 0] 0 (fun φ18 => [(2, .int .i64 ((q9 : Nat) : Int)), (36, .int .i64 ((q9 : Nat) : Int)), (35, .pointer (some ⟨y, 1, none⟩)), (34, .pointer (some ⟨y, 0, none⟩)), (33, .pointer (some ⟨y, 0, none⟩))]) (fun φ18 => [(y, .cells #[.slice a bs.length c, .int .i64 ((q9 : Nat) : Int)] 50)]) (fun φ18 => [y]) s trivial (fun φ18 => by kernel_rfl) ?_
        intro φ18 w18 s
        refine ops_done (by kernel_rfl) ?_
        refine wp_ret ?_
        refine ret_rule (C := []) [(y, .cells #[.slice a bs.length c, .int .i64 ((q9 : Nat) : Int)] 50)] [] (.int .i64 ((q9 : Nat) : Int)) [] [] s trivial (by kernel_rfl) ?_
        exact ⟨_, _, _, rfl, s, (by have h9 := of_decide_eq_true hc3; have hq9 := of_decide_eq_false hc11; have hi9 := hi9_0; have e9 : q9 = beE bs e := (by rw [hi9_1, show i9 = bs.length by omega, endQ_all, h9]); exact ⟨_, rfl, rfl, (by rw [e9]), (by rw [e9])⟩)⟩
    ·
      rw [hc5]
      refine cond_false_rule (b := false) (by kernel_rfl) rfl ?_
      refine wp_skip ?_
      refine wp_seq ?_
      refine region_rule ?_
      refine ops_rule (C := []) [(y, .cells #[.slice a bs.length c, .int .i64 ((e : Nat) : Int)] 50)] [] 6 [.o 0] 0 (fun φ19 => [(24, .int .i64 0), (23, .int .i64 ((bs.length : Nat) : Int)), (22, .slice a bs.length c), (21, .pointer (some ⟨y, 0, none⟩)), (20, .pointer (some ⟨y, 0, none⟩)), (19, .pointer (some ⟨y, 0, none⟩))]) (fun φ19 => [(y, .cells #[.slice a bs.length c, .int .i64 ((e : Nat) : Int)] 50)]) (fun φ19 => [y]) s trivial (fun φ19 => by kernel_rfl) ?_
      intro φ19 w19 s
      refine ops_done (by kernel_rfl) ?_
      refine wp_block ?_
      have hle20 := IM.Le.refl I
      refine loop_rule (fun (x : Nat × Nat) => [(0, .pointer (some ⟨y, 0, none⟩)), (22, .slice a bs.length c), (23, .int .i64 ((bs.length : Nat) : Int)), (24, .int .i64 ((x.1 : Nat) : Int))]) (fun (x : Nat × Nat) => [(y, .cells #[.slice a bs.length c, .int .i64 ((x.2 : Nat) : Int)] 50)]) (fun m (x : Nat × Nat) J => IM.Le I J ∧ x.1 + m = bs.length ∧ x.2 = endQ bs x.1) (bs.length) (0, e) s (by kernel_rfl) (List.Sublist.cons₂ _ List.Sublist.slnil) ⟨IM.Le.refl _, Nat.zero_add _, (of_decide_eq_true hc3).trans (endQ_nought (of_decide_eq_false hc5))⟩ ?_
      rintro m21 ⟨i21, q21⟩ I21 w21 ev21 s ⟨le21, hi21_0, hi21_1⟩
      try dsimp only at s hi21_0 hi21_1 ⊢
      replace hb := BoS.mono le21 hb
      replace hle20 := leMono le21 hle20
      refine wp_seq ?_
      refine region_rule ?_
      refine ops_rule (C := []) [(y, .cells #[.slice a bs.length c, .int .i64 ((q21 : Nat) : Int)] 50)] [] 1 [] 0 (fun φ22 => [(25, .bool (decide (((i21 : Nat) : Int) < ((bs.length : Nat) : Int))))]) (fun φ22 => [(y, .cells #[.slice a bs.length c, .int .i64 ((q21 : Nat) : Int)] 50)]) (fun φ22 => []) s trivial (fun φ22 => by kernel_rfl) ?_
      intro φ22 w22 s
      rw [nat_lss (a := i21) (b := bs.length)]
      refine ops_done (by kernel_rfl) ?_
      refine wp_seq ?_
      rcases Bool.eq_false_or_eq_true (decide (i21 < bs.length)) with hc23 | hc23
      ·
        rw [hc23]
        refine cond_true_rule (b := true) (by kernel_rfl) rfl ?_
        refine wp_skip ?_
        refine wp_seq ?_
        refine wp_block ?_
        refine wp_seq ?_
        refine region_rule ?_
        refine sem_rule (Instr.indexAt 26 (.slice a bs.length c) (.int .i64 ((i21 : Nat) : Int))) (some 26) (.pointer (pAt a i21)) (by kernel_rfl) (bos_idx hb (by  have hq0 := of_decide_eq_true hc3; have hq1 := of_decide_eq_false hc5; have hq2 := of_decide_eq_true hc23; omega)) ?_
        refine sem_rule (Instr.loadAt 4 (.pointer (pAt a i21))) (some 27) (.bool (bs.getD i21 false)) (by kernel_rfl) (bos_ld s.sub hb (by  have hq0 := of_decide_eq_true hc3; have hq1 := of_decide_eq_false hc5; have hq2 := of_decide_eq_true hc23; omega)) ?_
        refine ops_rule (C := []) [(y, .cells #[.slice a bs.length c, .int .i64 ((q21 : Nat) : Int)] 50)] [] 1 [] 0 (fun φ24 => [(4, .bool (bs.getD i21 false))]) (fun φ24 => [(y, .cells #[.slice a bs.length c, .int .i64 ((q21 : Nat) : Int)] 50)]) (fun φ24 => []) s trivial (fun φ24 => by kernel_rfl) ?_
        intro φ24 w24 s
        refine ops_done (by kernel_rfl) ?_
        refine wp_seq ?_
        refine region_rule ?_
        refine ops_rule (C := []) [(y, .cells #[.slice a bs.length c, .int .i64 ((q21 : Nat) : Int)] 50)] [] 1 [] 0 (fun φ25 => [(28, .bool (bs.getD i21 false))]) (fun φ25 => [(y, .cells #[.slice a bs.length c, .int .i64 ((q21 : Nat) : Int)] 50)]) (fun φ25 => []) s trivial (fun φ25 => by kernel_rfl) ?_
        intro φ25 w25 s
        refine ops_done (by kernel_rfl) ?_
        rcases Bool.eq_false_or_eq_true (bs.getD i21 false) with hc26 | hc26
        ·
          rw [hc26]
          refine cond_true_rule (b := true) (by kernel_rfl) rfl ?_
          refine region_rule ?_
          refine ops_rule (C := []) [(y, .cells #[.slice a bs.length c, .int .i64 ((q21 : Nat) : Int)] 50)] [] 4 [.o 0] 0 (fun φ27 => [(31, .pointer (some ⟨y, 1, none⟩)), (30, .pointer (some ⟨y, 0, none⟩)), (29, .pointer (some ⟨y, 0, none⟩))]) (fun φ27 => [(y, .cells #[.slice a bs.length c, .int .i64 6] 50)]) (fun φ27 => [y]) s trivial (fun φ27 => by kernel_rfl) ?_
          intro φ27 w27 s
          refine ops_done (by kernel_rfl) ?_
          refine region_rule ?_
          refine ops_rule (C := []) [(y, .cells #[.slice a bs.length c, .int .i64 6] 50)] [] 2 [] 0 (fun φ28 => [(24, .int .i64 (IntKind.wrap .i64 (((i21 : Nat) : Int) + ((1 : Nat) : Int)))), (32, .int .i64 (IntKind.wrap .i64 (((i21 : Nat) : Int) + ((1 : Nat) : Int))))]) (fun φ28 => [(y, .cells #[.slice a bs.length c, .int .i64 6] 50)]) (fun φ28 => []) s trivial (fun φ28 => by kernel_rfl) ?_
          intro φ28 w28 s
          rw [nat_addI (a := i21) (b := 1) (by  have hq0 := of_decide_eq_true hc3; have hq1 := of_decide_eq_false hc5; have hq2 := of_decide_eq_true hc23; omega)]
          refine ops_done (by kernel_rfl) ?_
          have hq9 := of_decide_eq_true hc23
          exact ⟨⟨m21 - 1, (i21 + 1, 6), _, _, _, by omega, rfl, s, (List.Sublist.cons₂ _ List.Sublist.slnil), by kernel_rfl, hle20, by show i21 + 1 + (m21 - 1) = bs.length; omega, endQ_one hq9 hc26⟩⟩
        ·
          rw [hc26]
          refine cond_false_rule (b := false) (by kernel_rfl) rfl ?_
          refine wp_skip ?_
          refine region_rule ?_
          refine ops_rule (C := []) [(y, .cells #[.slice a bs.length c, .int .i64 ((q21 : Nat) : Int)] 50)] [] 2 [] 0 (fun φ29 => [(24, .int .i64 (IntKind.wrap .i64 (((i21 : Nat) : Int) + ((1 : Nat) : Int)))), (32, .int .i64 (IntKind.wrap .i64 (((i21 : Nat) : Int) + ((1 : Nat) : Int))))]) (fun φ29 => [(y, .cells #[.slice a bs.length c, .int .i64 ((q21 : Nat) : Int)] 50)]) (fun φ29 => []) s trivial (fun φ29 => by kernel_rfl) ?_
          intro φ29 w29 s
          rw [nat_addI (a := i21) (b := 1) (by  have hq0 := of_decide_eq_true hc3; have hq1 := of_decide_eq_false hc5; have hq2 := of_decide_eq_true hc23; omega)]
          refine ops_done (by kernel_rfl) ?_
          have hq9 := of_decide_eq_true hc23
          exact ⟨⟨m21 - 1, (i21 + 1, q21), _, _, _, by omega, rfl, s, (List.Sublist.cons₂ _ List.Sublist.slnil), by kernel_rfl, hle20, by show i21 + 1 + (m21 - 1) = bs.length; omega, hi21_1.trans (endQ_nil hq9 hc26)⟩⟩
      ·
        rw [hc23]
        refine cond_false_rule (b := false) (by kernel_rfl) rfl ?_
        refine wp_exit ?_
        refine wp_seq ?_
        refine region_rule ?_
        refine ops_rule (C := []) [(y, .cells #[.slice a bs.length c, .int .i64 ((q21 : Nat) : Int)] 50)] [] 5 [.o 0] 0 (fun φ30 => [(2, .int .i64 ((q21 : Nat) : Int)), (36, .int .i64 ((q21 : Nat) : Int)), (35, .pointer (some ⟨y, 1, none⟩)), (34, .pointer (some ⟨y, 0, none⟩)), (33, .pointer (some ⟨y, 0, none⟩))]) (fun φ30 => [(y, .cells #[.slice a bs.length c, .int .i64 ((q21 : Nat) : Int)] 50)]) (fun φ30 => [y]) s trivial (fun φ30 => by kernel_rfl) ?_
        intro φ30 w30 s
        refine ops_done (by kernel_rfl) ?_
        refine wp_ret ?_
        refine ret_rule (C := []) [(y, .cells #[.slice a bs.length c, .int .i64 ((q21 : Nat) : Int)] 50)] [] (.int .i64 ((q21 : Nat) : Int)) [] [] s trivial (by kernel_rfl) ?_
        exact ⟨_, _, _, rfl, s, (by have h9 := of_decide_eq_true hc3; have hq9 := of_decide_eq_false hc23; have hi9 := hi21_0; have e9 : q21 = beE bs e := (by rw [hi21_1, show i21 = bs.length by omega, endQ_all, h9]); exact ⟨_, rfl, rfl, (by rw [e9]), (by rw [e9])⟩)⟩
  ·
    rw [hc3]
    refine cond_false_rule (b := false) (by kernel_rfl) rfl ?_
    refine wp_skip ?_
    refine wp_seq ?_
    refine region_rule ?_
    refine ops_rule (C := []) [(y, .cells #[.slice a bs.length c, .int .i64 ((e : Nat) : Int)] 50)] [] 5 [.o 0] 0 (fun φ31 => [(2, .int .i64 ((e : Nat) : Int)), (36, .int .i64 ((e : Nat) : Int)), (35, .pointer (some ⟨y, 1, none⟩)), (34, .pointer (some ⟨y, 0, none⟩)), (33, .pointer (some ⟨y, 0, none⟩))]) (fun φ31 => [(y, .cells #[.slice a bs.length c, .int .i64 ((e : Nat) : Int)] 50)]) (fun φ31 => [y]) s trivial (fun φ31 => by kernel_rfl) ?_
    intro φ31 w31 s
    refine ops_done (by kernel_rfl) ?_
    refine wp_ret ?_
    refine ret_rule (C := []) [(y, .cells #[.slice a bs.length c, .int .i64 ((e : Nat) : Int)] 50)] [] (.int .i64 ((e : Nat) : Int)) [] [] s trivial (by kernel_rfl) ?_
    exact ⟨_, _, _, rfl, s, (by have h9 := of_decide_eq_false hc3; exact ⟨_, rfl, rfl, (by unfold beE; rw [if_neg (fun q => h9 q.1)]), (by unfold beE; rw [if_neg (fun q => h9 q.1)])⟩)⟩

end Go.Proofs.Ytpnlaeapnokipaa

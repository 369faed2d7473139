/- The document reads a number in few bits. -/
import Derived.Test.YtpnlaeapnokipaaGW29
import Derived.Test.YtpnlaeapnokipaaGC12
set_option linter.all false
set_option maxRecDepth 100000
namespace Go.Proofs.Ytpnlaeapnokipaa
open Go.RowKit Go.Sep
attribute [local irreducible] Go.wpList Go.Code.wp

set_option maxHeartbeats 2000000 in
theorem refNumB_c {I : IM} {bs : List Bool} {a : Option Addr} {n c y e : Nat} (hb : BoS I bs (.slice a n c)) (hn9 : bs.length ≤ 1000000) : FunM Try.prog 33 #[.pointer (some ⟨y, 0, none⟩)] I [(y, .cells #[.slice a n c, .int .i64 ((e : Nat) : Int)] 50)] (fun v J H' => ∃ b' : OB, H' = [b'] ∧ b'.1 = y ∧ ∃ (a' : Option Addr) (n' c' : Nat), v = .int .u64 ((bnV bs e : Nat) : Int) ∧ b' = (y, .cells #[.slice a' n' c', .int .i64 ((bnE bs e : Nat) : Int)] 50) ∧ BoS J (bs.drop (bnD bs e)) (.slice a' n' c')) := by
  obtain ⟨rfl, -⟩ := hb.cap
  refine enterM_rule 89 [(0, .pointer (some ⟨y, 0, none⟩))] Try.func33 rfl (by kernel_rfl) ?_
  intro w s
  refine wp_seq ?_
  refine region_rule ?_
  refine ops_rule (C := []) [(y, .cells #[.slice a bs.length c, .int .i64 ((e : Nat) : Int)] 50)] [] 1 [] 0 (fun φ1 => [(2, .int .u64 0)]) (fun φ1 => [(y, .cells #[.slice a bs.length c, .int .i64 ((e : Nat) : Int)] 50)]) (fun φ1 => []) s trivial (fun φ1 => by kernel_rfl) ?_
  intro φ1 w1 s
  refine ops_done (by kernel_rfl) ?_
  refine wp_seq ?_
  refine wp_seq ?_
  refine region_rule ?_
  refine ops_rule (C := []) [(y, .cells #[.slice a bs.length c, .int .i64 ((e : Nat) : Int)] 50)] [] 5 [.o 0] 0 (fun φ2 => [(13, .bool (((e : Nat) : Int) != ((0 : Nat) : Int))), (12, .int .i64 ((e : Nat) : Int)), (11, .pointer (some ⟨y, 1, none⟩)), (10, .pointer (some ⟨y, 0, none⟩)), (9, .pointer (some ⟨y, 0, none⟩))]) (fun φ2 => [(y, .cells #[.slice a bs.length c, .int .i64 ((e : Nat) : Int)] 50)]) (fun φ2 => [y]) s trivial (fun φ2 => by kernel_rfl) ?_
  intro φ2 w2 s
  rw [nat_neq (a := e) (b := 0)]
  refine ops_done (by kernel_rfl) ?_
  rcases Bool.eq_false_or_eq_true (decide (e ≠ 0)) with hc3 | hc3
  ·
    rw [hc3]
    refine cond_true_rule (b := true) (by kernel_rfl) rfl ?_
    refine wp_seq ?_
    refine region_rule ?_
    refine ops_rule (C := []) [(y, .cells #[.slice a bs.length c, .int .i64 ((e : Nat) : Int)] 50)] [] 1 [] 0 (fun φ4 => [(2, .int .u64 0)]) (fun φ4 => [(y, .cells #[.slice a bs.length c, .int .i64 ((e : Nat) : Int)] 50)]) (fun φ4 => []) s trivial (fun φ4 => by kernel_rfl) ?_
    intro φ4 w4 s
    refine ops_done (by kernel_rfl) ?_
    refine wp_ret ?_
    refine ret_rule (C := []) [(y, .cells #[.slice a bs.length c, .int .i64 ((e : Nat) : Int)] 50)] [] (.int .u64 0) [] [] s trivial (by kernel_rfl) ?_
    exact ⟨_, _, _, rfl, s, (by have h9 := of_decide_eq_true hc3; have h8 := bn_err (bs := bs) (e := e) h9; exact ⟨_, rfl, rfl, _, _, _, (by rw [h8.1]; rfl), (by rw [h8.2.2]), bos_eq hb (by rw [h8.2.1]; rfl)⟩)⟩
  ·
    rw [hc3]
    refine cond_false_rule (b := false) (by kernel_rfl) rfl ?_
    refine wp_skip ?_
    refine wp_seq ?_
    refine region_rule ?_
    refine ops_rule (C := []) [(y, .cells #[.slice a bs.length c, .int .i64 ((e : Nat) : Int)] 50)] [] 5 [.o 0] 0 (fun φ5 => [(3, .slice a bs.length c), (17, .slice a bs.length c), (16, .pointer (some ⟨y, 0, none⟩)), (15, .pointer (some ⟨y, 0, none⟩)), (14, .pointer (some ⟨y, 0, none⟩))]) (fun φ5 => [(y, .cells #[.slice a bs.length c, .int .i64 ((e : Nat) : Int)] 50)]) (fun φ5 => [y]) s trivial (fun φ5 => by kernel_rfl) ?_
    intro φ5 w5 s
    refine ops_done (by kernel_rfl) ?_
    refine wp_seq ?_
    refine region_rule ?_
    refine ops_rule (C := []) [(y, .cells #[.slice a bs.length c, .int .i64 ((e : Nat) : Int)] 50)] [] 1 [] 0 (fun φ6 => [(4, .int .i64 2)]) (fun φ6 => [(y, .cells #[.slice a bs.length c, .int .i64 ((e : Nat) : Int)] 50)]) (fun φ6 => []) s trivial (fun φ6 => by kernel_rfl) ?_
    intro φ6 w6 s
    refine ops_done (by kernel_rfl) ?_
    refine wp_seq ?_
    refine region_rule ?_
    refine ops_rule (C := []) [(y, .cells #[.slice a bs.length c, .int .i64 ((e : Nat) : Int)] 50)] [] 1 [] 0 (fun φ7 => [(5, .int .u64 0)]) (fun φ7 => [(y, .cells #[.slice a bs.length c, .int .i64 ((e : Nat) : Int)] 50)]) (fun φ7 => []) s trivial (fun φ7 => by kernel_rfl) ?_
    intro φ7 w7 s
    refine ops_done (by kernel_rfl) ?_
    refine wp_seq ?_
    refine wp_block ?_
    have hle8 := IM.Le.refl I
    refine loop_rule (fun (x : Nat × Option Addr × Nat × Nat) => [(0, .pointer (some ⟨y, 0, none⟩)), (3, .slice x.2.1 x.2.2.1 x.2.2.2), (4, .int .i64 ((x.1 + 2 : Nat) : Int)), (5, .int .u64 ((2 ^ (x.1 + 2) - 4 : Nat) : Int))]) (fun (x : Nat × Option Addr × Nat × Nat) => [(y, .cells #[.slice a bs.length c, .int .i64 ((e : Nat) : Int)] 50)]) (fun m (x : Nat × Option Addr × Nat × Nat) J => IM.Le I J ∧ x.1 + m = 63 ∧ OnesB bs x.1 ∧ BoS J (bs.drop x.1) (.slice x.2.1 x.2.2.1 x.2.2.2)) (63) (0, a, bs.length, c) s (by kernel_rfl) (List.Sublist.cons₂ _ List.Sublist.slnil) ⟨IM.Le.refl _, rfl, OnesB.start bs, bos_eq hb rfl⟩ ?_
    rintro m9 ⟨j9, a9, n9, c9⟩ I9 w9 ev9 s ⟨le9, hi9_0, hi9_1, hi9_2⟩
    try dsimp only at s hi9_0 hi9_1 hi9_2 ⊢
    replace hb := BoS.mono le9 hb
    replace hle8 := leMono le9 hle8
    refine wp_seq ?_
    refine wp_seq ?_
    refine region_rule ?_
    refine ops_rule (C := []) [(y, .cells #[.slice a bs.length c, .int .i64 ((e : Nat) : Int)] 50)] [] 4 [] 0 (fun φ10 => [(21, .bool (decide (((n9 : Nat) : Int) > ((0 : Nat) : Int)))), (20, .bool (decide (((n9 : Nat) : Int) > ((0 : Nat) : Int)))), (19, .int .i64 ((n9 : Nat) : Int)), (18, .slice a9 n9 c9)]) (fun φ10 => [(y, .cells #[.slice a bs.length c, .int .i64 ((e : Nat) : Int)] 50)]) (fun φ10 => []) s trivial (fun φ10 => by kernel_rfl) ?_
    intro φ10 w10 s
    rw [nat_gtr (a := n9) (b := 0)]
    rcases Bool.eq_false_or_eq_true (decide (0 < n9)) with hc11 | hc11
    ·
      rw [hc11]
      refine ops_rule (C := []) [(y, .cells #[.slice a bs.length c, .int .i64 ((e : Nat) : Int)] 50)] [] 1 [] 0 (fun φ12 => [(22, .slice a9 n9 c9)]) (fun φ12 => [(y, .cells #[.slice a bs.length c, .int .i64 ((e : Nat) : Int)] 50)]) (fun φ12 => []) s trivial (fun φ12 => by kernel_rfl) ?_
      intro φ12 w12 s
      refine sem_rule (Instr.indexAt 26 (.slice a9 n9 c9) (.int .i64 ((0 : Nat) : Int))) (some 23) (.pointer (pAt a9 0)) (by kernel_rfl) (bos_idx hi9_2 (by have hdl : (bs.drop j9).length = bs.length - j9 := List.length_drop; have hdm : (((bs.drop j9).take (1 + (j9 + 2))).drop 1).length = min (1 + (j9 + 2)) (bs.length - j9) - 1 := (by simp only [List.length_drop, List.length_take]); have ho1 := hi9_1.le; have ho2 := hi9_1.len; have hcp1 := (hi9_2).cap; (simp only [List.length_drop] at hcp1); have hbl := base_lt (j := j9) hi9_1.le;  have hq0 := of_decide_eq_false hc3; have hq1 := of_decide_eq_true hc11; omega)) ?_
      refine sem_rule (Instr.loadAt 4 (.pointer (pAt a9 0))) (some 24) (.bool ((bs.drop j9).getD 0 false)) (by kernel_rfl) (bos_ld s.sub hi9_2 (by have hdl : (bs.drop j9).length = bs.length - j9 := List.length_drop; have hdm : (((bs.drop j9).take (1 + (j9 + 2))).drop 1).length = min (1 + (j9 + 2)) (bs.length - j9) - 1 := (by simp only [List.length_drop, List.length_take]); have ho1 := hi9_1.le; have ho2 := hi9_1.len; have hcp1 := (hi9_2).cap; (simp only [List.length_drop] at hcp1); have hbl := base_lt (j := j9) hi9_1.le;  have hq0 := of_decide_eq_false hc3; have hq1 := of_decide_eq_true hc11; omega)) ?_
      refine ops_rule (C := []) [(y, .cells #[.slice a bs.length c, .int .i64 ((e : Nat) : Int)] 50)] [] 2 [] 0 (fun φ13 => [(26, .bool ((bs.drop j9).getD 0 false)), (25, .bool ((bs.drop j9).getD 0 false))]) (fun φ13 => [(y, .cells #[.slice a bs.length c, .int .i64 ((e : Nat) : Int)] 50)]) (fun φ13 => []) s trivial (fun φ13 => by kernel_rfl) ?_
      intro φ13 w13 s
      rcases Bool.eq_false_or_eq_true ((bs.drop j9).getD 0 false) with hc14 | hc14
      ·
        rw [hc14]
        refine ops_rule (C := []) [(y, .cells #[.slice a bs.length c, .int .i64 ((e : Nat) : Int)] 50)] [] 3 [] 0 (fun φ15 => [(29, .bool (decide (((j9 + 2 : Nat) : Int) < ((64 : Nat) : Int)))), (28, .bool (decide (((j9 + 2 : Nat) : Int) < ((64 : Nat) : Int)))), (27, .int .i64 ((j9 + 2 : Nat) : Int))]) (fun φ15 => [(y, .cells #[.slice a bs.length c, .int .i64 ((e : Nat) : Int)] 50)]) (fun φ15 => []) s trivial (fun φ15 => by kernel_rfl) ?_
        intro φ15 w15 s
        rw [nat_lss (a := (j9 + 2)) (b := 64)]
        refine ops_done (by kernel_rfl) ?_
        rcases Bool.eq_false_or_eq_true (decide ((j9 + 2) < 64)) with hc16 | hc16
        ·
          rw [hc16]
          refine cond_true_rule (b := true) (by kernel_rfl) rfl ?_
          refine wp_skip ?_
          refine wp_block ?_
          refine wp_seq ?_
          refine region_rule ?_
          refine ops_rule (C := []) [(y, .cells #[.slice a bs.length c, .int .i64 ((e : Nat) : Int)] 50)] [] 2 [] 0 (fun φ17 => [(31, .int .i64 ((j9 + 2 : Nat) : Int)), (30, .int .u64 ((2 ^ (j9 + 2) - 4 : Nat) : Int))]) (fun φ17 => [(y, .cells #[.slice a bs.length c, .int .i64 ((e : Nat) : Int)] 50)]) (fun φ17 => []) s trivial (fun φ17 => by kernel_rfl) ?_
          intro φ17 w17 s
          refine call_rule (some 32) s (power_c (b := j9 + 2) (by have hdl : (bs.drop j9).length = bs.length - j9 := List.length_drop; have hdm : (((bs.drop j9).take (1 + (j9 + 2))).drop 1).length = min (1 + (j9 + 2)) (bs.length - j9) - 1 := (by simp only [List.length_drop, List.length_take]); have ho1 := hi9_1.le; have ho2 := hi9_1.len; have hcp1 := (hi9_2).cap; (simp only [List.length_drop] at hcp1); have hbl := base_lt (j := j9) hi9_1.le; have hpb := pow_base (j := j9) (by have hq0 := of_decide_eq_false hc3; have hq1 := of_decide_eq_true hc11; have hq3 := of_decide_eq_true hc16; omega);  have hq0 := of_decide_eq_false hc3; have hq1 := of_decide_eq_true hc11; have hq3 := of_decide_eq_true hc16; omega)) (by kernel_rfl) ?_
          intro v18 I18 w18 le18 h18 s
          replace hb := BoS.mono le18 hb
          replace hle8 := leMono le18 hle8
          replace hi9_2 := BoS.mono le18 hi9_2
          obtain rfl := h18
          refine ops_rule (C := []) [(y, .cells #[.slice a bs.length c, .int .i64 ((e : Nat) : Int)] 50)] [] 2 [] 0 (fun φ19 => [(5, .int .u64 (IntKind.wrap .u64 (((2 ^ (j9 + 2) - 4 : Nat) : Int) + ((2 ^ (j9 + 2) : Nat) : Int)))), (33, .int .u64 (IntKind.wrap .u64 (((2 ^ (j9 + 2) - 4 : Nat) : Int) + ((2 ^ (j9 + 2) : Nat) : Int))))]) (fun φ19 => [(y, .cells #[.slice a bs.length c, .int .i64 ((e : Nat) : Int)] 50)]) (fun φ19 => []) s trivial (fun φ19 => by kernel_rfl) ?_
          intro φ19 w19 s
          rw [nat_addU (a := (2 ^ (j9 + 2) - 4)) (b := (2 ^ (j9 + 2))) (by have hdl : (bs.drop j9).length = bs.length - j9 := List.length_drop; have hdm : (((bs.drop j9).take (1 + (j9 + 2))).drop 1).length = min (1 + (j9 + 2)) (bs.length - j9) - 1 := (by simp only [List.length_drop, List.length_take]); have ho1 := hi9_1.le; have ho2 := hi9_1.len; have hcp1 := (hi9_2).cap; (simp only [List.length_drop] at hcp1); have hbl := base_lt (j := j9) hi9_1.le; have hpb := pow_base (j := j9) (by have hq0 := of_decide_eq_false hc3; have hq1 := of_decide_eq_true hc11; have hq3 := of_decide_eq_true hc16; omega);  have hq0 := of_decide_eq_false hc3; have hq1 := of_decide_eq_true hc11; have hq3 := of_decide_eq_true hc16; omega)]
          refine ops_done (by kernel_rfl) ?_
          refine wp_seq ?_
          refine region_rule ?_
          refine ops_rule (C := []) [(y, .cells #[.slice a bs.length c, .int .i64 ((e : Nat) : Int)] 50)] [] 1 [] 0 (fun φ20 => [(34, .slice a9 n9 c9)]) (fun φ20 => [(y, .cells #[.slice a bs.length c, .int .i64 ((e : Nat) : Int)] 50)]) (fun φ20 => []) s trivial (fun φ20 => by kernel_rfl) ?_
          intro φ20 w20 s
          refine sem_rule (Instr.sliceAt 26 (.slice a9 n9 c9) (some (.int .i64 ((1 : Nat) : Int))) none none) (some 35) (.slice (subA a9 1 c9) (n9 - 1) (c9 - 1)) (by kernel_rfl) (run_fromB (by have hcp := (BoS.cap hi9_2).2; (try simp only [List.length_drop, List.length_take, List.length_append, List.length_cons, List.length_nil] at hcp ⊢); have hdl : (bs.drop j9).length = bs.length - j9 := List.length_drop; have hdm : (((bs.drop j9).take (1 + (j9 + 2))).drop 1).length = min (1 + (j9 + 2)) (bs.length - j9) - 1 := (by simp only [List.length_drop, List.length_take]); have ho1 := hi9_1.le; have ho2 := hi9_1.len; have hcp1 := (hi9_2).cap; (simp only [List.length_drop] at hcp1); have hbl := base_lt (j := j9) hi9_1.le; have hpb := pow_base (j := j9) (by have hq0 := of_decide_eq_false hc3; have hq1 := of_decide_eq_true hc11; have hq3 := of_decide_eq_true hc16; omega);  have hq0 := of_decide_eq_false hc3; have hq1 := of_decide_eq_true hc11; have hq3 := of_decide_eq_true hc16; omega)) ?_
          refine ops_rule (C := []) [(y, .cells #[.slice a bs.length c, .int .i64 ((e : Nat) : Int)] 50)] [] 1 [] 0 (fun φ21 => [(3, .slice (subA a9 1 c9) (n9 - 1) (c9 - 1))]) (fun φ21 => [(y, .cells #[.slice a bs.length c, .int .i64 ((e : Nat) : Int)] 50)]) (fun φ21 => []) s trivial (fun φ21 => by kernel_rfl) ?_
          intro φ21 w21 s
          refine ops_done (by kernel_rfl) ?_
          refine region_rule ?_
          refine ops_rule (C := []) [(y, .cells #[.slice a bs.length c, .int .i64 ((e : Nat) : Int)] 50)] [] 3 [] 0 (fun φ22 => [(4, .int .i64 (IntKind.wrap .i64 (((j9 + 2 : Nat) : Int) + ((1 : Nat) : Int)))), (37, .int .i64 (IntKind.wrap .i64 (((j9 + 2 : Nat) : Int) + ((1 : Nat) : Int)))), (36, .int .i64 ((j9 + 2 : Nat) : Int))]) (fun φ22 => [(y, .cells #[.slice a bs.length c, .int .i64 ((e : Nat) : Int)] 50)]) (fun φ22 => []) s trivial (fun φ22 => by kernel_rfl) ?_
          intro φ22 w22 s
          rw [nat_addI (a := (j9 + 2)) (b := 1) (by have hdl : (bs.drop j9).length = bs.length - j9 := List.length_drop; have hdm : (((bs.drop j9).take (1 + (j9 + 2))).drop 1).length = min (1 + (j9 + 2)) (bs.length - j9) - 1 := (by simp only [List.length_drop, List.length_take]); have ho1 := hi9_1.le; have ho2 := hi9_1.len; have hcp1 := (hi9_2).cap; (simp only [List.length_drop] at hcp1); have hbl := base_lt (j := j9) hi9_1.le; have hpb := pow_base (j := j9) (by have hq0 := of_decide_eq_false hc3; have hq1 := of_decide_eq_true hc11; have hq3 := of_decide_eq_true hc16; omega);  have hq0 := of_decide_eq_false hc3; have hq1 := of_decide_eq_true hc11; have hq3 := of_decide_eq_true hc16; omega)]
          refine ops_done (by kernel_rfl) ?_
          have hs9 := OnesB.step hi9_1 (by have hq0 := of_decide_eq_false hc3; have hq1 := of_decide_eq_true hc11; have hq3 := of_decide_eq_true hc16; have hc9 := (hi9_2).cap.1; omega) hc14 (of_decide_eq_true hc16)
          rw [base_step (j := j9)]
          rw [show j9 + 2 + 1 = j9 + 1 + 2 from by omega]
          exact ⟨⟨m9 - 1, (j9 + 1, (subA a9 1 c9), (n9 - 1), (c9 - 1)), _, _, _, by have := hi9_0; have := hs9.le; omega, rfl, s, (List.Sublist.cons₂ _ List.Sublist.slnil), by kernel_rfl, hle8, by have := hi9_0; have := hs9.le; show j9 + 1 + (m9 - 1) = 63; omega, hs9, bos_eq (bos_from (lo := 1) hi9_2 (by have hcp := (BoS.cap hi9_2).2; (try simp only [List.length_drop, List.length_take, List.length_append, List.length_cons, List.length_nil] at hcp ⊢); have hdl : (bs.drop j9).length = bs.length - j9 := List.length_drop; have hdm : (((bs.drop j9).take (1 + (j9 + 2))).drop 1).length = min (1 + (j9 + 2)) (bs.length - j9) - 1 := (by simp only [List.length_drop, List.length_take]); have ho1 := hi9_1.le; have ho2 := hi9_1.len; have hcp1 := (hi9_2).cap; (simp only [List.length_drop] at hcp1); have hbl := base_lt (j := j9) hi9_1.le; have hpb := pow_base (j := j9) (by have hq0 := of_decide_eq_false hc3; have hq1 := of_decide_eq_true hc11; have hq3 := of_decide_eq_true hc16; omega);  have hq0 := of_decide_eq_false hc3; have hq1 := of_decide_eq_true hc11; have hq3 := of_decide_eq_true hc16; omega)) (by rw [List.drop_drop])⟩⟩
        ·
          rw [hc16]
          refine cond_false_rule (b := false) (by kernel_rfl) rfl ?_
          refine wp_exit ?_
          refine wp_seq ?_
          refine wp_seq ?_
          refine region_rule ?_
          refine ops_rule (C := []) [(y, .cells #[.slice a bs.length c, .int .i64 ((e : Nat) : Int)] 50)] [] 4 [] 0 (fun φ23 => [(41, .bool (((n9 : Nat) : Int) == ((0 : Nat) : Int))), (40, .bool (((n9 : Nat) : Int) == ((0 : Nat) : Int))), (39, .int .i64 ((n9 : Nat) : Int)), (38, .slice a9 n9 c9)]) (fun φ23 => [(y, .cells #[.slice a bs.length c, .int .i64 ((e : Nat) : Int)] 50)]) (fun φ23 => []) s trivial (fun φ23 => by kernel_rfl) ?_
          intro φ23 w23 s
          rw [nat_eql (a := n9) (b := 0)]
          rcases Bool.eq_false_or_eq_true (decide (n9 = 0)) with hc24 | hc24
          ·
            exact absurd (of_decide_eq_true hc24) (by have q9 := of_decide_eq_true hc11; omega)
          ·
            rw [hc24]
            refine ops_rule (C := []) [(y, .cells #[.slice a bs.length c, .int .i64 ((e : Nat) : Int)] 50)] [] 1 [] 0 (fun φ25 => [(42, .slice a9 n9 c9)]) (fun φ25 => [(y, .cells #[.slice a bs.length c, .int .i64 ((e : Nat) : Int)] 50)]) (fun φ25 => []) s trivial (fun φ25 => by kernel_rfl) ?_
            intro φ25 w25 s
            refine sem_rule (Instr.indexAt 26 (.slice a9 n9 c9) (.int .i64 ((0 : Nat) : Int))) (some 43) (.pointer (pAt a9 0)) (by kernel_rfl) (bos_idx hi9_2 (by have hdl : (bs.drop j9).length = bs.length - j9 := List.length_drop; have hdm : (((bs.drop j9).take (1 + (j9 + 2))).drop 1).length = min (1 + (j9 + 2)) (bs.length - j9) - 1 := (by simp only [List.length_drop, List.length_take]); have ho1 := hi9_1.le; have ho2 := hi9_1.len; have hcp1 := (hi9_2).cap; (simp only [List.length_drop] at hcp1); have hbl := base_lt (j := j9) hi9_1.le;  have hq0 := of_decide_eq_false hc3; have hq1 := of_decide_eq_true hc11; have hq3 := of_decide_eq_false hc16; have hq4 := of_decide_eq_false hc24; omega)) ?_
            refine sem_rule (Instr.loadAt 4 (.pointer (pAt a9 0))) (some 44) (.bool ((bs.drop j9).getD 0 false)) (by kernel_rfl) (bos_ld s.sub hi9_2 (by have hdl : (bs.drop j9).length = bs.length - j9 := List.length_drop; have hdm : (((bs.drop j9).take (1 + (j9 + 2))).drop 1).length = min (1 + (j9 + 2)) (bs.length - j9) - 1 := (by simp only [List.length_drop, List.length_take]); have ho1 := hi9_1.le; have ho2 := hi9_1.len; have hcp1 := (hi9_2).cap; (simp only [List.length_drop] at hcp1); have hbl := base_lt (j := j9) hi9_1.le;  have hq0 := of_decide_eq_false hc3; have hq1 := of_decide_eq_true hc11; have hq3 := of_decide_eq_false hc16; have hq4 := of_decide_eq_false hc24; omega)) ?_
            refine ops_rule (C := []) [(y, .cells #[.slice a bs.length c, .int .i64 ((e : Nat) : Int)] 50)] [] 2 [] 0 (fun φ26 => [(46, .bool ((bs.drop j9).getD 0 false)), (45, .bool ((bs.drop j9).getD 0 false))]) (fun φ26 => [(y, .cells #[.slice a bs.length c, .int .i64 ((e : Nat) : Int)] 50)]) (fun φ26 => []) s trivial (fun φ26 => by kernel_rfl) ?_
            intro φ26 w26 s
            rcases Bool.eq_false_or_eq_true ((bs.drop j9).getD 0 false) with hc27 | hc27
            ·
              rw [hc27]
              refine ops_rule (C := []) [(y, .cells #[.slice a bs.length c, .int .i64 ((e : Nat) : Int)] 50)] [] 6 [] 0 (fun φ28 => [(52, .bool true), (51, undef), (50, undef), (49, undef), (48, undef), (47, undef)]) (fun φ28 => [(y, .cells #[.slice a bs.length c, .int .i64 ((e : Nat) : Int)] 50)]) (fun φ28 => []) s trivial (fun φ28 => by kernel_rfl) ?_
              intro φ28 w28 s
              refine ops_done (by kernel_rfl) ?_
              refine cond_true_rule (b := true) (by kernel_rfl) rfl ?_
              refine wp_seq ?_
              refine region_rule ?_
              refine ops_rule (C := []) [(y, .cells #[.slice a bs.length c, .int .i64 ((e : Nat) : Int)] 50)] [] 4 [.o 0] 0 (fun φ29 => [(55, .pointer (some ⟨y, 1, none⟩)), (54, .pointer (some ⟨y, 0, none⟩)), (53, .pointer (some ⟨y, 0, none⟩))]) (fun φ29 => [(y, .cells #[.slice a bs.length c, .int .i64 6] 50)]) (fun φ29 => [y]) s trivial (fun φ29 => by kernel_rfl) ?_
              intro φ29 w29 s
              refine ops_done (by kernel_rfl) ?_
              refine wp_seq ?_
              refine region_rule ?_
              refine ops_rule (C := []) [(y, .cells #[.slice a bs.length c, .int .i64 6] 50)] [] 1 [] 0 (fun φ30 => [(2, .int .u64 0)]) (fun φ30 => [(y, .cells #[.slice a bs.length c, .int .i64 6] 50)]) (fun φ30 => []) s trivial (fun φ30 => by kernel_rfl) ?_
              intro φ30 w30 s
              refine ops_done (by kernel_rfl) ?_
              refine wp_ret ?_
              refine ret_rule (C := []) [(y, .cells #[.slice a bs.length c, .int .i64 6] 50)] [] (.int .u64 0) [] [] s trivial (by kernel_rfl) ?_
              exact ⟨_, _, _, rfl, s, (by have h8 := bn_bad (bs := bs) (e := e) (j := j9) (by have h9 := of_decide_eq_false hc3; omega) (OnesB.run hi9_1 (.inr (.inr (by have hq0 := of_decide_eq_false hc3; have hq1 := of_decide_eq_true hc11; have hq3 := of_decide_eq_false hc16; have hq4 := of_decide_eq_false hc24; omega)))) (.inr (.inl (by rw [← head_drop]; exact hc27))); exact ⟨_, rfl, rfl, _, _, _, (by rw [h8.1]; rfl), (by rw [h8.2.2]; rfl), bos_eq hb (by rw [h8.2.1]; rfl)⟩)⟩
            ·
              exact absurd (hc14.symm.trans hc27) (by decide)
      ·
        rw [hc14]
        refine ops_rule (C := []) [(y, .cells #[.slice a bs.length c, .int .i64 ((e : Nat) : Int)] 50)] [] 3 [] 0 (fun φ31 => [(29, .bool false), (28, undef), (27, undef)]) (fun φ31 => [(y, .cells #[.slice a bs.length c, .int .i64 ((e : Nat) : Int)] 50)]) (fun φ31 => []) s trivial (fun φ31 => by kernel_rfl) ?_
        intro φ31 w31 s
        refine ops_done (by kernel_rfl) ?_
        refine cond_false_rule (b := false) (by kernel_rfl) rfl ?_
        refine wp_exit ?_
        refine wp_seq ?_
        refine wp_seq ?_
        refine region_rule ?_
        refine ops_rule (C := []) [(y, .cells #[.slice a bs.length c, .int .i64 ((e : Nat) : Int)] 50)] [] 4 [] 0 (fun φ32 => [(41, .bool (((n9 : Nat) : Int) == ((0 : Nat) : Int))), (40, .bool (((n9 : Nat) : Int) == ((0 : Nat) : Int))), (39, .int .i64 ((n9 : Nat) : Int)), (38, .slice a9 n9 c9)]) (fun φ32 => [(y, .cells #[.slice a bs.length c, .int .i64 ((e : Nat) : Int)] 50)]) (fun φ32 => []) s trivial (fun φ32 => by kernel_rfl) ?_
        intro φ32 w32 s
        rw [nat_eql (a := n9) (b := 0)]
        rcases Bool.eq_false_or_eq_true (decide (n9 = 0)) with hc33 | hc33
        ·
          exact absurd (of_decide_eq_true hc33) (by have q9 := of_decide_eq_true hc11; omega)
        ·
          rw [hc33]
          refine ops_rule (C := []) [(y, .cells #[.slice a bs.length c, .int .i64 ((e : Nat) : Int)] 50)] [] 1 [] 0 (fun φ34 => [(42, .slice a9 n9 c9)]) (fun φ34 => [(y, .cells #[.slice a bs.length c, .int .i64 ((e : Nat) : Int)] 50)]) (fun φ34 => []) s trivial (fun φ34 => by kernel_rfl) ?_
          intro φ34 w34 s
          refine sem_rule (Instr.indexAt 26 (.slice a9 n9 c9) (.int .i64 ((0 : Nat) : Int))) (some 43) (.pointer (pAt a9 0)) (by kernel_rfl) (bos_idx hi9_2 (by have hdl : (bs.drop j9).length = bs.length - j9 := List.length_drop; have hdm : (((bs.drop j9).take (1 + (j9 + 2))).drop 1).length = min (1 + (j9 + 2)) (bs.length - j9) - 1 := (by simp only [List.length_drop, List.length_take]); have ho1 := hi9_1.le; have ho2 := hi9_1.len; have hcp1 := (hi9_2).cap; (simp only [List.length_drop] at hcp1); have hbl := base_lt (j := j9) hi9_1.le;  have hq0 := of_decide_eq_false hc3; have hq1 := of_decide_eq_true hc11; have hq3 := of_decide_eq_false hc33; omega)) ?_
          refine sem_rule (Instr.loadAt 4 (.pointer (pAt a9 0))) (some 44) (.bool ((bs.drop j9).getD 0 false)) (by kernel_rfl) (bos_ld s.sub hi9_2 (by have hdl : (bs.drop j9).length = bs.length - j9 := List.length_drop; have hdm : (((bs.drop j9).take (1 + (j9 + 2))).drop 1).length = min (1 + (j9 + 2)) (bs.length - j9) - 1 := (by simp only [List.length_drop, List.length_take]); have ho1 := hi9_1.le; have ho2 := hi9_1.len; have hcp1 := (hi9_2).cap; (simp only [List.length_drop] at hcp1); have hbl := base_lt (j := j9) hi9_1.le;  have hq0 := of_decide_eq_false hc3; have hq1 := of_decide_eq_true hc11; have hq3 := of_decide_eq_false hc33; omega)) ?_
          refine ops_rule (C := []) [(y, .cells #[.slice a bs.length c, .int .i64 ((e : Nat) : Int)] 50)] [] 2 [] 0 (fun φ35 => [(46, .bool ((bs.drop j9).getD 0 false)), (45, .bool ((bs.drop j9).getD 0 false))]) (fun φ35 => [(y, .cells #[.slice a bs.length c, .int .i64 ((e : Nat) : Int)] 50)]) (fun φ35 => []) s trivial (fun φ35 => by kernel_rfl) ?_
          intro φ35 w35 s
          rcases Bool.eq_false_or_eq_true ((bs.drop j9).getD 0 false) with hc36 | hc36
          ·
            exact absurd (hc14.symm.trans hc36) (by decide)
          ·
            rw [hc36]
            refine ops_rule (C := []) [(y, .cells #[.slice a bs.length c, .int .i64 ((e : Nat) : Int)] 50)] [] 6 [] 0 (fun φ37 => [(52, .bool (decide (((n9 : Nat) : Int) < (IntKind.wrap .i64 (((1 : Nat) : Int) + ((j9 + 2 : Nat) : Int)))))), (51, .bool (decide (((n9 : Nat) : Int) < (IntKind.wrap .i64 (((1 : Nat) : Int) + ((j9 + 2 : Nat) : Int)))))), (50, .int .i64 (IntKind.wrap .i64 (((1 : Nat) : Int) + ((j9 + 2 : Nat) : Int)))), (49, .int .i64 ((j9 + 2 : Nat) : Int)), (48, .int .i64 ((n9 : Nat) : Int)), (47, .slice a9 n9 c9)]) (fun φ37 => [(y, .cells #[.slice a bs.length c, .int .i64 ((e : Nat) : Int)] 50)]) (fun φ37 => []) s trivial (fun φ37 => by kernel_rfl) ?_
            intro φ37 w37 s
            rw [nat_addI (a := 1) (b := (j9 + 2)) (by have hdl : (bs.drop j9).length = bs.length - j9 := List.length_drop; have hdm : (((bs.drop j9).take (1 + (j9 + 2))).drop 1).length = min (1 + (j9 + 2)) (bs.length - j9) - 1 := (by simp only [List.length_drop, List.length_take]); have ho1 := hi9_1.le; have ho2 := hi9_1.len; have hcp1 := (hi9_2).cap; (simp only [List.length_drop] at hcp1); have hbl := base_lt (j := j9) hi9_1.le;  have hq0 := of_decide_eq_false hc3; have hq1 := of_decide_eq_true hc11; have hq3 := of_decide_eq_false hc33; omega)]
            rw [nat_lss (a := n9) (b := (1 + (j9 + 2)))]
            refine ops_done (by kernel_rfl) ?_
            rcases Bool.eq_false_or_eq_true (decide (n9 < (1 + (j9 + 2)))) with hc38 | hc38
            ·
              rw [hc38]
              refine cond_true_rule (b := true) (by kernel_rfl) rfl ?_
              refine wp_seq ?_
              refine region_rule ?_
              refine ops_rule (C := []) [(y, .cells #[.slice a bs.length c, .int .i64 ((e : Nat) : Int)] 50)] [] 4 [.o 0] 0 (fun φ39 => [(55, .pointer (some ⟨y, 1, none⟩)), (54, .pointer (some ⟨y, 0, none⟩)), (53, .pointer (some ⟨y, 0, none⟩))]) (fun φ39 => [(y, .cells #[.slice a bs.length c, .int .i64 6] 50)]) (fun φ39 => [y]) s trivial (fun φ39 => by kernel_rfl) ?_
              intro φ39 w39 s
              refine ops_done (by kernel_rfl) ?_
              refine wp_seq ?_
              refine region_rule ?_
              refine ops_rule (C := []) [(y, .cells #[.slice a bs.length c, .int .i64 6] 50)] [] 1 [] 0 (fun φ40 => [(2, .int .u64 0)]) (fun φ40 => [(y, .cells #[.slice a bs.length c, .int .i64 6] 50)]) (fun φ40 => []) s trivial (fun φ40 => by kernel_rfl) ?_
              intro φ40 w40 s
              refine ops_done (by kernel_rfl) ?_
              refine wp_ret ?_
              refine ret_rule (C := []) [(y, .cells #[.slice a bs.length c, .int .i64 6] 50)] [] (.int .u64 0) [] [] s trivial (by kernel_rfl) ?_
              exact ⟨_, _, _, rfl, s, (by have h8 := bn_bad (bs := bs) (e := e) (j := j9) (by have h9 := of_decide_eq_false hc3; omega) (OnesB.run hi9_1 (.inr (.inl hc14))) (.inl (by have hq0 := of_decide_eq_false hc3; have hq1 := of_decide_eq_true hc11; have hq3 := of_decide_eq_false hc33; have hq5 := of_decide_eq_true hc38; have hdl : (bs.drop j9).length = bs.length - j9 := List.length_drop; have hdm : (((bs.drop j9).take (1 + (j9 + 2))).drop 1).length = min (1 + (j9 + 2)) (bs.length - j9) - 1 := (by simp only [List.length_drop, List.length_take]); have ho1 := hi9_1.le; have ho2 := hi9_1.len; have hcp1 := (hi9_2).cap; (simp only [List.length_drop] at hcp1); have hbl := base_lt (j := j9) hi9_1.le;  omega)); exact ⟨_, rfl, rfl, _, _, _, (by rw [h8.1]; rfl), (by rw [h8.2.2]; rfl), bos_eq hb (by rw [h8.2.1]; rfl)⟩)⟩
            ·
              rw [hc38]
              refine cond_false_rule (b := false) (by kernel_rfl) rfl ?_
              refine wp_skip ?_
              refine wp_seq ?_
              refine region_rule ?_
              refine ops_rule (C := []) [(y, .cells #[.slice a bs.length c, .int .i64 ((e : Nat) : Int)] 50)] [] 1 [] 0 (fun φ41 => [(6, .int .u64 0)]) (fun φ41 => [(y, .cells #[.slice a bs.length c, .int .i64 ((e : Nat) : Int)] 50)]) (fun φ41 => []) s trivial (fun φ41 => by kernel_rfl) ?_
              intro φ41 w41 s
              refine ops_done (by kernel_rfl) ?_
              refine wp_seq ?_
              refine wp_seq ?_
              refine region_rule ?_
              refine ops_rule (C := []) [(y, .cells #[.slice a bs.length c, .int .i64 ((e : Nat) : Int)] 50)] [] 3 [] 0 (fun φ42 => [(58, .int .i64 (IntKind.wrap .i64 (((1 : Nat) : Int) + ((j9 + 2 : Nat) : Int)))), (57, .int .i64 ((j9 + 2 : Nat) : Int)), (56, .slice a9 n9 c9)]) (fun φ42 => [(y, .cells #[.slice a bs.length c, .int .i64 ((e : Nat) : Int)] 50)]) (fun φ42 => []) s trivial (fun φ42 => by kernel_rfl) ?_
              intro φ42 w42 s
              rw [nat_addI (a := 1) (b := (j9 + 2)) (by have hdl : (bs.drop j9).length = bs.length - j9 := List.length_drop; have hdm : (((bs.drop j9).take (1 + (j9 + 2))).drop 1).length = min (1 + (j9 + 2)) (bs.length - j9) - 1 := (by simp only [List.length_drop, List.length_take]); have ho1 := hi9_1.le; have ho2 := hi9_1.len; have hcp1 := (hi9_2).cap; (simp only [List.length_drop] at hcp1); have hbl := base_lt (j := j9) hi9_1.le;  have hq0 := of_decide_eq_false hc3; have hq1 := of_decide_eq_true hc11; have hq3 := of_decide_eq_false hc33; have hq5 := of_decide_eq_false hc38; omega)]
              refine sem_rule (Instr.sliceAt 26 (.slice a9 n9 c9) (some (.int .i64 ((1 : Nat) : Int))) (some (.int .i64 ((1 + (j9 + 2) : Nat) : Int))) none) (some 59) (.slice (subA a9 1 c9) (1 + (j9 + 2) - 1) (c9 - 1)) (by kernel_rfl) (run_midB (by have hcp := (BoS.cap hi9_2).2; (try simp only [List.length_drop, List.length_take, List.length_append, List.length_cons, List.length_nil] at hcp ⊢); have hdl : (bs.drop j9).length = bs.length - j9 := List.length_drop; have hdm : (((bs.drop j9).take (1 + (j9 + 2))).drop 1).length = min (1 + (j9 + 2)) (bs.length - j9) - 1 := (by simp only [List.length_drop, List.length_take]); have ho1 := hi9_1.le; have ho2 := hi9_1.len; have hcp1 := (hi9_2).cap; (simp only [List.length_drop] at hcp1); have hbl := base_lt (j := j9) hi9_1.le;  have hq0 := of_decide_eq_false hc3; have hq1 := of_decide_eq_true hc11; have hq3 := of_decide_eq_false hc33; have hq5 := of_decide_eq_false hc38; omega) (by have hcp := (BoS.cap hi9_2).2; (try simp only [List.length_drop, List.length_take, List.length_append, List.length_cons, List.length_nil] at hcp ⊢); have hdl : (bs.drop j9).length = bs.length - j9 := List.length_drop; have hdm : (((bs.drop j9).take (1 + (j9 + 2))).drop 1).length = min (1 + (j9 + 2)) (bs.length - j9) - 1 := (by simp only [List.length_drop, List.length_take]); have ho1 := hi9_1.le; have ho2 := hi9_1.len; have hcp1 := (hi9_2).cap; (simp only [List.length_drop] at hcp1); have hbl := base_lt (j := j9) hi9_1.le;  have hq0 := of_decide_eq_false hc3; have hq1 := of_decide_eq_true hc11; have hq3 := of_decide_eq_false hc33; have hq5 := of_decide_eq_false hc38; omega)) ?_
              refine ops_rule (C := []) [(y, .cells #[.slice a bs.length c, .int .i64 ((e : Nat) : Int)] 50)] [] 2 [] 0 (fun φ43 => [(61, .int .i64 0), (60, .int .i64 (((1 + (j9 + 2) - 1) : Nat) : Int))]) (fun φ43 => [(y, .cells #[.slice a bs.length c, .int .i64 ((e : Nat) : Int)] 50)]) (fun φ43 => []) s trivial (fun φ43 => by kernel_rfl) ?_
              intro φ43 w43 s
              refine ops_done (by kernel_rfl) ?_
              refine wp_block ?_
              have hle44 := IM.Le.refl I9
              refine loop_rule (fun (x : Nat) => [(0, .pointer (some ⟨y, 0, none⟩)), (3, .slice a9 n9 c9), (4, .int .i64 ((j9 + 2 : Nat) : Int)), (5, .int .u64 ((2 ^ (j9 + 2) - 4 : Nat) : Int)), (59, .slice (subA a9 1 c9) (1 + (j9 + 2) - 1) (c9 - 1)), (60, .int .i64 (((1 + (j9 + 2) - 1) : Nat) : Int)), (6, .int .u64 ((rdB (((bs.drop j9).take (1 + (j9 + 2))).drop 1) x : Nat) : Int)), (61, .int .i64 ((x : Nat) : Int))]) (fun (x : Nat) => [(y, .cells #[.slice a bs.length c, .int .i64 ((e : Nat) : Int)] 50)]) (fun m (x : Nat) J => IM.Le I9 J ∧ x + m = j9 + 2) (j9 + 2) 0 s (by kernel_rfl) (List.Sublist.cons₂ _ List.Sublist.slnil) ⟨IM.Le.refl _, Nat.zero_add _⟩ ?_
              rintro m45 i45 I45 w45 ev45 s ⟨le45, hi45_0⟩
              try dsimp only at s hi45_0 ⊢
              replace hb := BoS.mono le45 hb
              replace hle8 := leMono le45 hle8
              replace hi9_2 := BoS.mono le45 hi9_2
              replace hle44 := leMono le45 hle44
              refine wp_seq ?_
              refine region_rule ?_
              refine ops_rule (C := []) [(y, .cells #[.slice a bs.length c, .int .i64 ((e : Nat) : Int)] 50)] [] 1 [] 0 (fun φ46 => [(62, .bool (decide (((i45 : Nat) : Int) < (((1 + (j9 + 2) - 1) : Nat) : Int))))]) (fun φ46 => [(y, .cells #[.slice a bs.length c, .int .i64 ((e : Nat) : Int)] 50)]) (fun φ46 => []) s trivial (fun φ46 => by kernel_rfl) ?_
              intro φ46 w46 s
              rw [nat_lss (a := i45) (b := (1 + (j9 + 2) - 1))]
              refine ops_done (by kernel_rfl) ?_
              refine wp_seq ?_
              rcases Bool.eq_false_or_eq_true (decide (i45 < (1 + (j9 + 2) - 1))) with hc47 | hc47
              ·
                rw [hc47]
                refine cond_true_rule (b := true) (by kernel_rfl) rfl ?_
                refine wp_skip ?_
                refine wp_seq ?_
                refine wp_block ?_
                refine wp_seq ?_
                refine region_rule ?_
                refine sem_rule (Instr.indexAt 26 (.slice (subA a9 1 c9) (1 + (j9 + 2) - 1) (c9 - 1)) (.int .i64 ((i45 : Nat) : Int))) (some 63) (.pointer (pAt (subA a9 1 c9) i45)) (by kernel_rfl) (bos_idx (bos_mid (lo := 1) (hi := 1 + (j9 + 2)) hi9_2 (by have hcp := (BoS.cap hi9_2).2; (try simp only [List.length_drop, List.length_take, List.length_append, List.length_cons, List.length_nil] at hcp ⊢); have hdl : (bs.drop j9).length = bs.length - j9 := List.length_drop; have hdm : (((bs.drop j9).take (1 + (j9 + 2))).drop 1).length = min (1 + (j9 + 2)) (bs.length - j9) - 1 := (by simp only [List.length_drop, List.length_take]); have ho1 := hi9_1.le; have ho2 := hi9_1.len; have hcp1 := (hi9_2).cap; (simp only [List.length_drop] at hcp1); have hbl := base_lt (j := j9) hi9_1.le;  have hq0 := of_decide_eq_false hc3; have hq1 := of_decide_eq_true hc11; have hq3 := of_decide_eq_false hc33; have hq5 := of_decide_eq_false hc38; omega) (by have hcp := (BoS.cap hi9_2).2; (try simp only [List.length_drop, List.length_take, List.length_append, List.length_cons, List.length_nil] at hcp ⊢); have hdl : (bs.drop j9).length = bs.length - j9 := List.length_drop; have hdm : (((bs.drop j9).take (1 + (j9 + 2))).drop 1).length = min (1 + (j9 + 2)) (bs.length - j9) - 1 := (by simp only [List.length_drop, List.length_take]); have ho1 := hi9_1.le; have ho2 := hi9_1.len; have hcp1 := (hi9_2).cap; (simp only [List.length_drop] at hcp1); have hbl := base_lt (j := j9) hi9_1.le;  have hq0 := of_decide_eq_false hc3; have hq1 := of_decide_eq_true hc11; have hq3 := of_decide_eq_false hc33; have hq5 := of_decide_eq_false hc38; omega)) (by have hdl : (bs.drop j9).length = bs.length - j9 := List.length_drop; have hdm : (((bs.drop j9).take (1 + (j9 + 2))).drop 1).length = min (1 + (j9 + 2)) (bs.length - j9) - 1 := (by simp only [List.length_drop, List.length_take]); have ho1 := hi9_1.le; have ho2 := hi9_1.len; have hcp1 := (hi9_2).cap; (simp only [List.length_drop] at hcp1); have hbl := base_lt (j := j9) hi9_1.le; have hr9 := rdB_63 (bs := (((bs.drop j9).take (1 + (j9 + 2))).drop 1)) (i := i45) (k := j9 + 2) (by have hq0 := of_decide_eq_false hc3; have hq1 := of_decide_eq_true hc11; have hq3 := of_decide_eq_false hc33; have hq5 := of_decide_eq_false hc38; have hq6 := of_decide_eq_true hc47; omega) (by omega);  have hq0 := of_decide_eq_false hc3; have hq1 := of_decide_eq_true hc11; have hq3 := of_decide_eq_false hc33; have hq5 := of_decide_eq_false hc38; have hq6 := of_decide_eq_true hc47; omega)) ?_
                refine sem_rule (Instr.loadAt 4 (.pointer (pAt (subA a9 1 c9) i45))) (some 64) (.bool ((((bs.drop j9).take (1 + (j9 + 2))).drop 1).getD i45 false)) (by kernel_rfl) (bos_ld s.sub (bos_mid (lo := 1) (hi := 1 + (j9 + 2)) hi9_2 (by have hcp := (BoS.cap hi9_2).2; (try simp only [List.length_drop, List.length_take, List.length_append, List.length_cons, List.length_nil] at hcp ⊢); have hdl : (bs.drop j9).length = bs.length - j9 := List.length_drop; have hdm : (((bs.drop j9).take (1 + (j9 + 2))).drop 1).length = min (1 + (j9 + 2)) (bs.length - j9) - 1 := (by simp only [List.length_drop, List.length_take]); have ho1 := hi9_1.le; have ho2 := hi9_1.len; have hcp1 := (hi9_2).cap; (simp only [List.length_drop] at hcp1); have hbl := base_lt (j := j9) hi9_1.le;  have hq0 := of_decide_eq_false hc3; have hq1 := of_decide_eq_true hc11; have hq3 := of_decide_eq_false hc33; have hq5 := of_decide_eq_false hc38; omega) (by have hcp := (BoS.cap hi9_2).2; (try simp only [List.length_drop, List.length_take, List.length_append, List.length_cons, List.length_nil] at hcp ⊢); have hdl : (bs.drop j9).length = bs.length - j9 := List.length_drop; have hdm : (((bs.drop j9).take (1 + (j9 + 2))).drop 1).length = min (1 + (j9 + 2)) (bs.length - j9) - 1 := (by simp only [List.length_drop, List.length_take]); have ho1 := hi9_1.le; have ho2 := hi9_1.len; have hcp1 := (hi9_2).cap; (simp only [List.length_drop] at hcp1); have hbl := base_lt (j := j9) hi9_1.le;  have hq0 := of_decide_eq_false hc3; have hq1 := of_decide_eq_true hc11; have hq3 := of_decide_eq_false hc33; have hq5 := of_decide_eq_false hc38; omega)) (by have hdl : (bs.drop j9).length = bs.length - j9 := List.length_drop; have hdm : (((bs.drop j9).take (1 + (j9 + 2))).drop 1).length = min (1 + (j9 + 2)) (bs.length - j9) - 1 := (by simp only [List.length_drop, List.length_take]); have ho1 := hi9_1.le; have ho2 := hi9_1.len; have hcp1 := (hi9_2).cap; (simp only [List.length_drop] at hcp1); have hbl := base_lt (j := j9) hi9_1.le; have hr9 := rdB_63 (bs := (((bs.drop j9).take (1 + (j9 + 2))).drop 1)) (i := i45) (k := j9 + 2) (by have hq0 := of_decide_eq_false hc3; have hq1 := of_decide_eq_true hc11; have hq3 := of_decide_eq_false hc33; have hq5 := of_decide_eq_false hc38; have hq6 := of_decide_eq_true hc47; omega) (by omega);  have hq0 := of_decide_eq_false hc3; have hq1 := of_decide_eq_true hc11; have hq3 := of_decide_eq_false hc33; have hq5 := of_decide_eq_false hc38; have hq6 := of_decide_eq_true hc47; omega)) ?_
                refine ops_rule (C := []) [(y, .cells #[.slice a bs.length c, .int .i64 ((e : Nat) : Int)] 50)] [] 1 [] 0 (fun φ48 => [(8, .bool ((((bs.drop j9).take (1 + (j9 + 2))).drop 1).getD i45 false))]) (fun φ48 => [(y, .cells #[.slice a bs.length c, .int .i64 ((e : Nat) : Int)] 50)]) (fun φ48 => []) s trivial (fun φ48 => by kernel_rfl) ?_
                intro φ48 w48 s
                refine ops_done (by kernel_rfl) ?_
                refine wp_seq ?_
                refine region_rule ?_
                refine ops_rule (C := []) [(y, .cells #[.slice a bs.length c, .int .i64 ((e : Nat) : Int)] 50)] [] 3 [] 0 (fun φ49 => [(6, .int .u64 (IntKind.wrap .u64 (((rdB (((bs.drop j9).take (1 + (j9 + 2))).drop 1) i45 : Nat) : Int) * ((2 : Nat) : Int)))), (66, .int .u64 (IntKind.wrap .u64 (((rdB (((bs.drop j9).take (1 + (j9 + 2))).drop 1) i45 : Nat) : Int) * ((2 : Nat) : Int)))), (65, .int .u64 ((rdB (((bs.drop j9).take (1 + (j9 + 2))).drop 1) i45 : Nat) : Int))]) (fun φ49 => [(y, .cells #[.slice a bs.length c, .int .i64 ((e : Nat) : Int)] 50)]) (fun φ49 => []) s trivial (fun φ49 => by kernel_rfl) ?_
                intro φ49 w49 s
                rw [nat_mulU (a := (rdB (((bs.drop j9).take (1 + (j9 + 2))).drop 1) i45)) (b := 2) (by have hdl : (bs.drop j9).length = bs.length - j9 := List.length_drop; have hdm : (((bs.drop j9).take (1 + (j9 + 2))).drop 1).length = min (1 + (j9 + 2)) (bs.length - j9) - 1 := (by simp only [List.length_drop, List.length_take]); have ho1 := hi9_1.le; have ho2 := hi9_1.len; have hcp1 := (hi9_2).cap; (simp only [List.length_drop] at hcp1); have hbl := base_lt (j := j9) hi9_1.le; have hr9 := rdB_63 (bs := (((bs.drop j9).take (1 + (j9 + 2))).drop 1)) (i := i45) (k := j9 + 2) (by have hq0 := of_decide_eq_false hc3; have hq1 := of_decide_eq_true hc11; have hq3 := of_decide_eq_false hc33; have hq5 := of_decide_eq_false hc38; have hq6 := of_decide_eq_true hc47; omega) (by omega);  have hq0 := of_decide_eq_false hc3; have hq1 := of_decide_eq_true hc11; have hq3 := of_decide_eq_false hc33; have hq5 := of_decide_eq_false hc38; have hq6 := of_decide_eq_true hc47; omega)]
                refine ops_done (by kernel_rfl) ?_
                refine wp_seq ?_
                refine region_rule ?_
                refine ops_rule (C := []) [(y, .cells #[.slice a bs.length c, .int .i64 ((e : Nat) : Int)] 50)] [] 1 [] 0 (fun φ50 => [(67, .bool ((((bs.drop j9).take (1 + (j9 + 2))).drop 1).getD i45 false))]) (fun φ50 => [(y, .cells #[.slice a bs.length c, .int .i64 ((e : Nat) : Int)] 50)]) (fun φ50 => []) s trivial (fun φ50 => by kernel_rfl) ?_
                intro φ50 w50 s
                refine ops_done (by kernel_rfl) ?_
                rcases Bool.eq_false_or_eq_true ((((bs.drop j9).take (1 + (j9 + 2))).drop 1).getD i45 false) with hc51 | hc51
                ·
                  rw [hc51]
                  refine cond_true_rule (b := true) (by kernel_rfl) rfl ?_
                  refine region_rule ?_
                  refine ops_rule (C := []) [(y, .cells #[.slice a bs.length c, .int .i64 ((e : Nat) : Int)] 50)] [] 3 [] 0 (fun φ52 => [(6, .int .u64 (IntKind.wrap .u64 ((((rdB (((bs.drop j9).take (1 + (j9 + 2))).drop 1) i45) * 2 : Nat) : Int) + ((1 : Nat) : Int)))), (69, .int .u64 (IntKind.wrap .u64 ((((rdB (((bs.drop j9).take (1 + (j9 + 2))).drop 1) i45) * 2 : Nat) : Int) + ((1 : Nat) : Int)))), (68, .int .u64 (((rdB (((bs.drop j9).take (1 + (j9 + 2))).drop 1) i45) * 2 : Nat) : Int))]) (fun φ52 => [(y, .cells #[.slice a bs.length c, .int .i64 ((e : Nat) : Int)] 50)]) (fun φ52 => []) s trivial (fun φ52 => by kernel_rfl) ?_
                  intro φ52 w52 s
                  rw [nat_addU (a := ((rdB (((bs.drop j9).take (1 + (j9 + 2))).drop 1) i45) * 2)) (b := 1) (by have hdl : (bs.drop j9).length = bs.length - j9 := List.length_drop; have hdm : (((bs.drop j9).take (1 + (j9 + 2))).drop 1).length = min (1 + (j9 + 2)) (bs.length - j9) - 1 := (by simp only [List.length_drop, List.length_take]); have ho1 := hi9_1.le; have ho2 := hi9_1.len; have hcp1 := (hi9_2).cap; (simp only [List.length_drop] at hcp1); have hbl := base_lt (j := j9) hi9_1.le; have hr9 := rdB_63 (bs := (((bs.drop j9).take (1 + (j9 + 2))).drop 1)) (i := i45) (k := j9 + 2) (by have hq0 := of_decide_eq_false hc3; have hq1 := of_decide_eq_true hc11; have hq3 := of_decide_eq_false hc33; have hq5 := of_decide_eq_false hc38; have hq6 := of_decide_eq_true hc47; omega) (by omega);  have hq0 := of_decide_eq_false hc3; have hq1 := of_decide_eq_true hc11; have hq3 := of_decide_eq_false hc33; have hq5 := of_decide_eq_false hc38; have hq6 := of_decide_eq_true hc47; omega)]
                  refine ops_done (by kernel_rfl) ?_
                  refine region_rule ?_
                  refine ops_rule (C := []) [(y, .cells #[.slice a bs.length c, .int .i64 ((e : Nat) : Int)] 50)] [] 2 [] 0 (fun φ53 => [(61, .int .i64 (IntKind.wrap .i64 (((i45 : Nat) : Int) + ((1 : Nat) : Int)))), (70, .int .i64 (IntKind.wrap .i64 (((i45 : Nat) : Int) + ((1 : Nat) : Int))))]) (fun φ53 => [(y, .cells #[.slice a bs.length c, .int .i64 ((e : Nat) : Int)] 50)]) (fun φ53 => []) s trivial (fun φ53 => by kernel_rfl) ?_
                  intro φ53 w53 s
                  rw [nat_addI (a := i45) (b := 1) (by have hdl : (bs.drop j9).length = bs.length - j9 := List.length_drop; have hdm : (((bs.drop j9).take (1 + (j9 + 2))).drop 1).length = min (1 + (j9 + 2)) (bs.length - j9) - 1 := (by simp only [List.length_drop, List.length_take]); have ho1 := hi9_1.le; have ho2 := hi9_1.len; have hcp1 := (hi9_2).cap; (simp only [List.length_drop] at hcp1); have hbl := base_lt (j := j9) hi9_1.le; have hr9 := rdB_63 (bs := (((bs.drop j9).take (1 + (j9 + 2))).drop 1)) (i := i45) (k := j9 + 2) (by have hq0 := of_decide_eq_false hc3; have hq1 := of_decide_eq_true hc11; have hq3 := of_decide_eq_false hc33; have hq5 := of_decide_eq_false hc38; have hq6 := of_decide_eq_true hc47; omega) (by omega);  have hq0 := of_decide_eq_false hc3; have hq1 := of_decide_eq_true hc11; have hq3 := of_decide_eq_false hc33; have hq5 := of_decide_eq_false hc38; have hq6 := of_decide_eq_true hc47; omega)]
                  refine ops_done (by kernel_rfl) ?_
                  rw [rdB_one' hc51]
                  exact ⟨⟨m45 - 1, i45 + 1, _, _, _, by have := of_decide_eq_true hc47; omega, rfl, s, (List.Sublist.cons₂ _ List.Sublist.slnil), by kernel_rfl, hle44, by have := of_decide_eq_true hc47; show i45 + 1 + (m45 - 1) = j9 + 2; omega⟩⟩
                ·
                  rw [hc51]
                  refine cond_false_rule (b := false) (by kernel_rfl) rfl ?_
                  refine wp_skip ?_
                  refine region_rule ?_
                  refine ops_rule (C := []) [(y, .cells #[.slice a bs.length c, .int .i64 ((e : Nat) : Int)] 50)] [] 2 [] 0 (fun φ54 => [(61, .int .i64 (IntKind.wrap .i64 (((i45 : Nat) : Int) + ((1 : Nat) : Int)))), (70, .int .i64 (IntKind.wrap .i64 (((i45 : Nat) : Int) + ((1 : Nat) : Int))))]) (fun φ54 => [(y, .cells #[.slice a bs.length c, .int .i64 ((e : Nat) : Int)] 50)]) (fun φ54 => []) s trivial (fun φ54 => by kernel_rfl) ?_
                  intro φ54 w54 s
                  rw [nat_addI (a := i45) (b := 1) (by have hdl : (bs.drop j9).length = bs.length - j9 := List.length_drop; have hdm : (((bs.drop j9).take (1 + (j9 + 2))).drop 1).length = min (1 + (j9 + 2)) (bs.length - j9) - 1 := (by simp only [List.length_drop, List.length_take]); have ho1 := hi9_1.le; have ho2 := hi9_1.len; have hcp1 := (hi9_2).cap; (simp only [List.length_drop] at hcp1); have hbl := base_lt (j := j9) hi9_1.le; have hr9 := rdB_63 (bs := (((bs.drop j9).take (1 + (j9 + 2))).drop 1)) (i := i45) (k := j9 + 2) (by have hq0 := of_decide_eq_false hc3; have hq1 := of_decide_eq_true hc11; have hq3 := of_decide_eq_false hc33; have hq5 := of_decide_eq_false hc38; have hq6 := of_decide_eq_true hc47; omega) (by omega);  have hq0 := of_decide_eq_false hc3; have hq1 := of_decide_eq_true hc11; have hq3 := of_decide_eq_false hc33; have hq5 := of_decide_eq_false hc38; have hq6 := of_decide_eq_true hc47; omega)]
                  refine ops_done (by kernel_rfl) ?_
                  rw [rdB_nil' hc51]
                  exact ⟨⟨m45 - 1, i45 + 1, _, _, _, by have := of_decide_eq_true hc47; omega, rfl, s, (List.Sublist.cons₂ _ List.Sublist.slnil), by kernel_rfl, hle44, by have := of_decide_eq_true hc47; show i45 + 1 + (m45 - 1) = j9 + 2; omega⟩⟩
              ·
                rw [hc47]
                refine cond_false_rule (b := false) (by kernel_rfl) rfl ?_
                refine wp_exit ?_
                refine wp_seq ?_
                refine wp_seq ?_
                refine region_rule ?_
                refine ops_rule (C := []) [(y, .cells #[.slice a bs.length c, .int .i64 ((e : Nat) : Int)] 50)] [] 5 [] 0 (fun φ55 => [(75, .bool (decide ((IntKind.wrap .u64 (((2 ^ (j9 + 2) - 4 : Nat) : Int) + ((rdB (((bs.drop j9).take (1 + (j9 + 2))).drop 1) i45 : Nat) : Int))) < ((2 ^ (j9 + 2) - 4 : Nat) : Int)))), (74, .int .u64 ((2 ^ (j9 + 2) - 4 : Nat) : Int)), (73, .int .u64 (IntKind.wrap .u64 (((2 ^ (j9 + 2) - 4 : Nat) : Int) + ((rdB (((bs.drop j9).take (1 + (j9 + 2))).drop 1) i45 : Nat) : Int)))), (72, .int .u64 ((rdB (((bs.drop j9).take (1 + (j9 + 2))).drop 1) i45 : Nat) : Int)), (71, .int .u64 ((2 ^ (j9 + 2) - 4 : Nat) : Int))]) (fun φ55 => [(y, .cells #[.slice a bs.length c, .int .i64 ((e : Nat) : Int)] 50)]) (fun φ55 => []) s trivial (fun φ55 => by kernel_rfl) ?_
                intro φ55 w55 s
                refine ops_done (by kernel_rfl) ?_
                rcases Bool.eq_false_or_eq_true (decide ((IntKind.wrap .u64 (((2 ^ (j9 + 2) - 4 : Nat) : Int) + ((rdB (((bs.drop j9).take (1 + (j9 + 2))).drop 1) i45 : Nat) : Int))) < ((2 ^ (j9 + 2) - 4 : Nat) : Int))) with hc56 | hc56
                ·
                  rw [hc56]
                  refine cond_true_rule (b := true) (by kernel_rfl) rfl ?_
                  refine wp_seq ?_
                  refine region_rule ?_
                  refine ops_rule (C := []) [(y, .cells #[.slice a bs.length c, .int .i64 ((e : Nat) : Int)] 50)] [] 4 [.o 0] 0 (fun φ57 => [(78, .pointer (some ⟨y, 1, none⟩)), (77, .pointer (some ⟨y, 0, none⟩)), (76, .pointer (some ⟨y, 0, none⟩))]) (fun φ57 => [(y, .cells #[.slice a bs.length c, .int .i64 6] 50)]) (fun φ57 => [y]) s trivial (fun φ57 => by kernel_rfl) ?_
                  intro φ57 w57 s
                  refine ops_done (by kernel_rfl) ?_
                  refine wp_seq ?_
                  refine region_rule ?_
                  refine ops_rule (C := []) [(y, .cells #[.slice a bs.length c, .int .i64 6] 50)] [] 1 [] 0 (fun φ58 => [(2, .int .u64 0)]) (fun φ58 => [(y, .cells #[.slice a bs.length c, .int .i64 6] 50)]) (fun φ58 => []) s trivial (fun φ58 => by kernel_rfl) ?_
                  intro φ58 w58 s
                  refine ops_done (by kernel_rfl) ?_
                  refine wp_ret ?_
                  refine ret_rule (C := []) [(y, .cells #[.slice a bs.length c, .int .i64 6] 50)] [] (.int .u64 0) [] [] s trivial (by kernel_rfl) ?_
                  exact ⟨_, _, _, rfl, s, (by have hi9 := hi45_0; have hq9 := of_decide_eq_false hc47; have hg9 : i45 = j9 + 2 := (by omega); have hm9 : rdB (((bs.drop j9).take (1 + (j9 + 2))).drop 1) i45 = rdB (bs.drop (j9 + 1)) (j9 + 2) := (by rw [hg9]; exact mid_rdB (Nat.le_refl _)); have hbl := base_lt (j := j9) hi9_1.le; have hrl := rdB_lt (bs.drop (j9 + 1)) (j9 + 2); have h64 : 2 ^ (j9 + 2) ≤ 2 ^ 64 := Nat.pow_le_pow_right (by decide) (by have := hi9_1.le; omega); have e64 : (2 : Nat) ^ 64 = 18446744073709551616 := (by decide); have hov := of_decide_eq_true hc56; rw [wrapU_mod, hm9] at hov; have hcp1 := (hi9_2).cap.1; rw [List.length_drop] at hcp1; have h8 := bn_bad (bs := bs) (e := e) (j := j9) (by have h9 := of_decide_eq_false hc3; omega) (OnesB.run hi9_1 (.inr (.inl hc14))) (.inr (.inr (by unfold fewV; generalize rdB (bs.drop (j9 + 1)) (j9 + 2) = R9 at *; generalize 2 ^ (j9 + 2) - 4 = B9 at *; omega))); exact ⟨_, rfl, rfl, _, _, _, (by rw [h8.1]; rfl), (by rw [h8.2.2]; rfl), bos_eq hb (by rw [h8.2.1]; rfl)⟩)⟩
                ·
                  rw [hc56]
                  refine cond_false_rule (b := false) (by kernel_rfl) rfl ?_
                  refine wp_skip ?_
                  refine wp_seq ?_
                  refine region_rule ?_
                  refine ops_rule (C := []) [(y, .cells #[.slice a bs.length c, .int .i64 ((e : Nat) : Int)] 50)] [] 4 [] 0 (fun φ59 => [(82, .int .i64 (IntKind.wrap .i64 (((1 : Nat) : Int) + ((j9 + 2 : Nat) : Int)))), (81, .int .i64 ((j9 + 2 : Nat) : Int)), (80, .slice a9 n9 c9), (79, .pointer (some ⟨y, 0, none⟩))]) (fun φ59 => [(y, .cells #[.slice a bs.length c, .int .i64 ((e : Nat) : Int)] 50)]) (fun φ59 => []) s trivial (fun φ59 => by kernel_rfl) ?_
                  intro φ59 w59 s
                  rw [nat_addI (a := 1) (b := (j9 + 2)) (by have hdl : (bs.drop j9).length = bs.length - j9 := List.length_drop; have hdm : (((bs.drop j9).take (1 + (j9 + 2))).drop 1).length = min (1 + (j9 + 2)) (bs.length - j9) - 1 := (by simp only [List.length_drop, List.length_take]); have ho1 := hi9_1.le; have ho2 := hi9_1.len; have hcp1 := (hi9_2).cap; (simp only [List.length_drop] at hcp1); have hbl := base_lt (j := j9) hi9_1.le;  have hq0 := of_decide_eq_false hc3; have hq1 := of_decide_eq_true hc11; have hq3 := of_decide_eq_false hc33; have hq5 := of_decide_eq_false hc38; have hq6 := of_decide_eq_false hc47; have hq7 := of_decide_eq_false hc56; omega)]
                  refine sem_rule (Instr.sliceAt 26 (.slice a9 n9 c9) (some (.int .i64 ((1 + (j9 + 2) : Nat) : Int))) none none) (some 83) (.slice (subA a9 (1 + (j9 + 2)) c9) (n9 - (1 + (j9 + 2))) (c9 - (1 + (j9 + 2)))) (by kernel_rfl) (run_fromB (by have hcp := (BoS.cap hi9_2).2; (try simp only [List.length_drop, List.length_take, List.length_append, List.length_cons, List.length_nil] at hcp ⊢); have hdl : (bs.drop j9).length = bs.length - j9 := List.length_drop; have hdm : (((bs.drop j9).take (1 + (j9 + 2))).drop 1).length = min (1 + (j9 + 2)) (bs.length - j9) - 1 := (by simp only [List.length_drop, List.length_take]); have ho1 := hi9_1.le; have ho2 := hi9_1.len; have hcp1 := (hi9_2).cap; (simp only [List.length_drop] at hcp1); have hbl := base_lt (j := j9) hi9_1.le;  have hq0 := of_decide_eq_false hc3; have hq1 := of_decide_eq_true hc11; have hq3 := of_decide_eq_false hc33; have hq5 := of_decide_eq_false hc38; have hq6 := of_decide_eq_false hc47; have hq7 := of_decide_eq_false hc56; omega)) ?_
                  refine ops_rule (C := []) [(y, .cells #[.slice a bs.length c, .int .i64 ((e : Nat) : Int)] 50)] [] 3 [.o 0] 0 (fun φ60 => [(85, .pointer (some ⟨y, 0, none⟩)), (84, .pointer (some ⟨y, 0, none⟩))]) (fun φ60 => [(y, .cells #[.slice (subA a9 (1 + (j9 + 2)) c9) (n9 - (1 + (j9 + 2))) (c9 - (1 + (j9 + 2))), .int .i64 ((e : Nat) : Int)] 50)]) (fun φ60 => [y]) s trivial (fun φ60 => by kernel_rfl) ?_
                  intro φ60 w60 s
                  refine ops_done (by kernel_rfl) ?_
                  refine wp_seq ?_
                  refine region_rule ?_
                  refine ops_rule (C := []) [(y, .cells #[.slice (subA a9 (1 + (j9 + 2)) c9) (n9 - (1 + (j9 + 2))) (c9 - (1 + (j9 + 2))), .int .i64 ((e : Nat) : Int)] 50)] [] 4 [] 0 (fun φ61 => [(2, .int .u64 (IntKind.wrap .u64 (((2 ^ (j9 + 2) - 4 : Nat) : Int) + ((rdB (((bs.drop j9).take (1 + (j9 + 2))).drop 1) i45 : Nat) : Int)))), (88, .int .u64 (IntKind.wrap .u64 (((2 ^ (j9 + 2) - 4 : Nat) : Int) + ((rdB (((bs.drop j9).take (1 + (j9 + 2))).drop 1) i45 : Nat) : Int)))), (87, .int .u64 ((rdB (((bs.drop j9).take (1 + (j9 + 2))).drop 1) i45 : Nat) : Int)), (86, .int .u64 ((2 ^ (j9 + 2) - 4 : Nat) : Int))]) (fun φ61 => [(y, .cells #[.slice (subA a9 (1 + (j9 + 2)) c9) (n9 - (1 + (j9 + 2))) (c9 - (1 + (j9 + 2))), .int .i64 ((e : Nat) : Int)] 50)]) (fun φ61 => []) s trivial (fun φ61 => by kernel_rfl) ?_
                  intro φ61 w61 s
                  refine ops_done (by kernel_rfl) ?_
                  refine wp_ret ?_
                  refine ret_rule (C := []) [(y, .cells #[.slice (subA a9 (1 + (j9 + 2)) c9) (n9 - (1 + (j9 + 2))) (c9 - (1 + (j9 + 2))), .int .i64 ((e : Nat) : Int)] 50)] [] (.int .u64 (IntKind.wrap .u64 (((2 ^ (j9 + 2) - 4 : Nat) : Int) + ((rdB (((bs.drop j9).take (1 + (j9 + 2))).drop 1) i45 : Nat) : Int)))) [] [] s trivial (by kernel_rfl) ?_
                  exact ⟨_, _, _, rfl, s, (by have hi9 := hi45_0; have hq9 := of_decide_eq_false hc47; have hg9 : i45 = j9 + 2 := (by omega); have hm9 : rdB (((bs.drop j9).take (1 + (j9 + 2))).drop 1) i45 = rdB (bs.drop (j9 + 1)) (j9 + 2) := (by rw [hg9]; exact mid_rdB (Nat.le_refl _)); have hbl := base_lt (j := j9) hi9_1.le; have hrl := rdB_lt (bs.drop (j9 + 1)) (j9 + 2); have h64 : 2 ^ (j9 + 2) ≤ 2 ^ 64 := Nat.pow_le_pow_right (by decide) (by have := hi9_1.le; omega); have e64 : (2 : Nat) ^ 64 = 18446744073709551616 := (by decide); have hov := of_decide_eq_false hc56; rw [wrapU_mod, hm9] at hov; have hcp1 := (hi9_2).cap.1; rw [List.length_drop] at hcp1; have h8 := bn_good (bs := bs) (e := e) (j := j9) (by have h9 := of_decide_eq_false hc3; omega) (OnesB.run hi9_1 (.inr (.inl hc14))) (fun q => q.elim (fun q => (by have := of_decide_eq_false hc38; omega)) (fun q => q.elim (fun q => (by rw [← head_drop, hc36] at q; cases q)) (fun q => (by unfold fewV at q; generalize rdB (bs.drop (j9 + 1)) (j9 + 2) = R9 at *; generalize 2 ^ (j9 + 2) - 4 = B9 at *; omega)))); exact ⟨_, rfl, rfl, _, _, _, (by rw [h8.1, wrapU_mod, hm9]; unfold fewV; exact congrArg (Value.int .u64) (by generalize rdB (bs.drop (j9 + 1)) (j9 + 2) = R9 at *; generalize 2 ^ (j9 + 2) - 4 = B9 at *; omega)), (by rw [h8.2.2]), bos_eq (bos_from (lo := 1 + (j9 + 2)) hi9_2 (by have hcp := (BoS.cap hi9_2).2; (try simp only [List.length_drop, List.length_take, List.length_append, List.length_cons, List.length_nil] at hcp ⊢); have hdl : (bs.drop j9).length = bs.length - j9 := List.length_drop; have hdm : (((bs.drop j9).take (1 + (j9 + 2))).drop 1).length = min (1 + (j9 + 2)) (bs.length - j9) - 1 := (by simp only [List.length_drop, List.length_take]); have ho1 := hi9_1.le; have ho2 := hi9_1.len; have hcp1 := (hi9_2).cap; (simp only [List.length_drop] at hcp1); have hbl := base_lt (j := j9) hi9_1.le;  have hq0 := of_decide_eq_false hc3; have hq1 := of_decide_eq_true hc11; have hq3 := of_decide_eq_false hc33; have hq5 := of_decide_eq_false hc38; have hq6 := of_decide_eq_false hc47; have hq7 := of_decide_eq_false hc56; omega)) (by rw [h8.2.1, List.drop_drop]; congr 1; omega)⟩)⟩
    ·
      rw [hc11]
      refine ops_rule (C := []) [(y, .cells #[.slice a bs.length c, .int .i64 ((e : Nat) : Int)] 50)] [] 8 [] 0 (fun φ62 => [(29, .bool false), (28, undef), (27, undef), (26, .bool false), (25, .bool false), (24, undef), (23, undef), (22, undef)]) (fun φ62 => [(y, .cells #[.slice a bs.length c, .int .i64 ((e : Nat) : Int)] 50)]) (fun φ62 => []) s trivial (fun φ62 => by kernel_rfl) ?_
      intro φ62 w62 s
      refine ops_done (by kernel_rfl) ?_
      refine cond_false_rule (b := false) (by kernel_rfl) rfl ?_
      refine wp_exit ?_
      refine wp_seq ?_
      refine wp_seq ?_
      refine region_rule ?_
      refine ops_rule (C := []) [(y, .cells #[.slice a bs.length c, .int .i64 ((e : Nat) : Int)] 50)] [] 4 [] 0 (fun φ63 => [(41, .bool (((n9 : Nat) : Int) == ((0 : Nat) : Int))), (40, .bool (((n9 : Nat) : Int) == ((0 : Nat) : Int))), (39, .int .i64 ((n9 : Nat) : Int)), (38, .slice a9 n9 c9)]) (fun φ63 => [(y, .cells #[.slice a bs.length c, .int .i64 ((e : Nat) : Int)] 50)]) (fun φ63 => []) s trivial (fun φ63 => by kernel_rfl) ?_
      intro φ63 w63 s
      rw [nat_eql (a := n9) (b := 0)]
      rcases Bool.eq_false_or_eq_true (decide (n9 = 0)) with hc64 | hc64
      ·
        rw [hc64]
        refine ops_rule (C := []) [(y, .cells #[.slice a bs.length c, .int .i64 ((e : Nat) : Int)] 50)] [] 11 [] 0 (fun φ65 => [(52, .bool true), (51, undef), (50, undef), (49, undef), (48, undef), (47, undef), (46, .bool true), (45, .bool true), (44, undef), (43, undef), (42, undef)]) (fun φ65 => [(y, .cells #[.slice a bs.length c, .int .i64 ((e : Nat) : Int)] 50)]) (fun φ65 => []) s trivial (fun φ65 => by kernel_rfl) ?_
        intro φ65 w65 s
        refine ops_done (by kernel_rfl) ?_
        refine cond_true_rule (b := true) (by kernel_rfl) rfl ?_
        refine wp_seq ?_
        refine region_rule ?_
        refine ops_rule (C := []) [(y, .cells #[.slice a bs.length c, .int .i64 ((e : Nat) : Int)] 50)] [] 4 [.o 0] 0 (fun φ66 => [(55, .pointer (some ⟨y, 1, none⟩)), (54, .pointer (some ⟨y, 0, none⟩)), (53, .pointer (some ⟨y, 0, none⟩))]) (fun φ66 => [(y, .cells #[.slice a bs.length c, .int .i64 6] 50)]) (fun φ66 => [y]) s trivial (fun φ66 => by kernel_rfl) ?_
        intro φ66 w66 s
        refine ops_done (by kernel_rfl) ?_
        refine wp_seq ?_
        refine region_rule ?_
        refine ops_rule (C := []) [(y, .cells #[.slice a bs.length c, .int .i64 6] 50)] [] 1 [] 0 (fun φ67 => [(2, .int .u64 0)]) (fun φ67 => [(y, .cells #[.slice a bs.length c, .int .i64 6] 50)]) (fun φ67 => []) s trivial (fun φ67 => by kernel_rfl) ?_
        intro φ67 w67 s
        refine ops_done (by kernel_rfl) ?_
        refine wp_ret ?_
        refine ret_rule (C := []) [(y, .cells #[.slice a bs.length c, .int .i64 6] 50)] [] (.int .u64 0) [] [] s trivial (by kernel_rfl) ?_
        exact ⟨_, _, _, rfl, s, (by have h8 := bn_bad (bs := bs) (e := e) (j := j9) (by have h9 := of_decide_eq_false hc3; omega) (OnesB.run hi9_1 (.inl (by have hq0 := of_decide_eq_false hc3; have hq1 := of_decide_eq_false hc11; have hq2 := of_decide_eq_true hc64; have hdl : (bs.drop j9).length = bs.length - j9 := List.length_drop; have hdm : (((bs.drop j9).take (1 + (j9 + 2))).drop 1).length = min (1 + (j9 + 2)) (bs.length - j9) - 1 := (by simp only [List.length_drop, List.length_take]); have ho1 := hi9_1.le; have ho2 := hi9_1.len; have hcp1 := (hi9_2).cap; (simp only [List.length_drop] at hcp1); have hbl := base_lt (j := j9) hi9_1.le;  rw [List.length_drop]; omega))) (.inl (by have hq0 := of_decide_eq_false hc3; have hq1 := of_decide_eq_false hc11; have hq2 := of_decide_eq_true hc64; have hdl : (bs.drop j9).length = bs.length - j9 := List.length_drop; have hdm : (((bs.drop j9).take (1 + (j9 + 2))).drop 1).length = min (1 + (j9 + 2)) (bs.length - j9) - 1 := (by simp only [List.length_drop, List.length_take]); have ho1 := hi9_1.le; have ho2 := hi9_1.len; have hcp1 := (hi9_2).cap; (simp only [List.length_drop] at hcp1); have hbl := base_lt (j := j9) hi9_1.le;  omega)); exact ⟨_, rfl, rfl, _, _, _, (by rw [h8.1]; rfl), (by rw [h8.2.2]; rfl), bos_eq hb (by rw [h8.2.1]; rfl)⟩)⟩
      ·
        exact absurd (of_decide_eq_false hc64) (by have q9 := of_decide_eq_false hc11; omega)

end Go.Proofs.Ytpnlaeapnokipaa

/- WireReads. -/
import Derived.Test.YtpnlaeapnokipaaDW25
import Derived.Test.YtpnlaeapnokipaaDW18
set_option linter.all false
set_option maxRecDepth 100000
namespace Go.Proofs.Ytpnlaeapnokipaa
open Go.RowKit Go.Sep
attribute [local irreducible] Go.wpList Go.Code.wp

theorem drop_zero_take {l : List UInt8} : ((l.take 200).take 200) = (l.take 200).drop 0 := by rw [List.take_take]; rfl

set_option maxHeartbeats 8000000 in
theorem wireReads_c {I : IM} {l : List UInt8} {L : List (Nat × Int)} {a a2 : Option Addr} {n c n2 c2 : Nat} (hl : BSl I l (.slice a n c)) (hA : ASl I L (.slice a2 n2 c2)) : Fun Try.prog 11 #[.slice a n c, .slice a2 n2 c2] I (fun v J => v = .bool true) := by
  obtain ⟨rfl, -⟩ := hl.cap
  obtain ⟨rfl, -⟩ := hA.cap
  refine enter_rule 101 [(0, .slice a l.length c), (1, .slice a2 L.length c2)] Try.func11 rfl (by kernel_rfl) ?_
  intro w s
  refine wp_seq ?_
  refine region_rule ?_
  refine ops_rule (C := []) [] [] 1 [] 0 (fun φ1 => [(4, .bool false)]) (fun φ1 => []) (fun φ1 => []) s trivial (fun φ1 => by kernel_rfl) ?_
  intro φ1 w1 s
  refine ops_done (by kernel_rfl) ?_
  refine wp_seq ?_
  refine wp_seq ?_
  refine region_rule ?_
  refine call_rule (some 11) s (awake6_c) (by kernel_rfl) ?_
  intro v2 I2 w2 le2 h2 s
  replace hl := BSl.mono le2 hl
  replace hA := ASl.mono le2 hA
  obtain rfl := h2
  refine ops_rule (C := []) [] [] 1 [] 0 (fun φ3 => [(12, .bool false)]) (fun φ3 => []) (fun φ3 => []) s trivial (fun φ3 => by kernel_rfl) ?_
  intro φ3 w3 s
  refine ops_done (by kernel_rfl) ?_
  refine cond_false_rule (b := false) (by kernel_rfl) rfl ?_
  refine wp_skip ?_
  refine wp_seq ?_
  refine region_rule ?_
  refine ops_rule (C := []) [] [] 1 [] 0 (fun φ4 => [(13, .slice a l.length c)]) (fun φ4 => []) (fun φ4 => []) s trivial (fun φ4 => by kernel_rfl) ?_
  intro φ4 w4 s
  refine call_rule (some 14) s (cut_c (m := 200) hl (by decide)) (by kernel_rfl) ?_
  intro v5 I5 w5 le5 h5 s
  replace hl := BSl.mono le5 hl
  replace hA := ASl.mono le5 hA
  obtain ⟨a5, c5, rfl, h5_0⟩ := h5
  refine ops_rule (C := []) [] [] 1 [] 0 (fun φ6 => [(0, .slice a5 (List.length (l.take 200)) c5)]) (fun φ6 => []) (fun φ6 => []) s trivial (fun φ6 => by kernel_rfl) ?_
  intro φ6 w6 s
  refine ops_done (by kernel_rfl) ?_
  refine wp_seq ?_
  refine region_rule ?_
  refine ops_rule (C := []) [] [] 1 [] 0 (fun φ7 => [(15, .slice a5 (List.length (l.take 200)) c5)]) (fun φ7 => []) (fun φ7 => []) s trivial (fun φ7 => by kernel_rfl) ?_
  intro φ7 w7 s
  refine call_rule (some 16) s (cut_c (m := 200) h5_0 (by decide)) (by kernel_rfl) ?_
  intro v8 I8 w8 le8 h8 s
  replace hl := BSl.mono le8 hl
  replace hA := ASl.mono le8 hA
  replace h5_0 := BSl.mono le8 h5_0
  obtain ⟨a8, c8, rfl, h8_0⟩ := h8
  refine callF_rule (H := []) (F := []) (some 17) s (newIn_c h8_0 (by simp only [List.length_drop, List.length_take]; omega)) (by kernel_rfl) ?_
  rintro v9 I9 w9 F9 le9 ⟨b9, a9, c9, rfl, rfl, hb9⟩ s
  replace hl := BSl.mono le9 hl
  replace hA := ASl.mono le9 hA
  replace h5_0 := BSl.mono le9 h5_0
  replace h8_0 := BSl.mono le9 h8_0
  refine ops_rule (C := []) [(b9, .cells #[.slice a9 (List.length ((l.take 200).take 200)) c9, .int .i64 0] 105)] [] 5 [] 1 (fun φ10 => [(6, .pointer (some ⟨(φ10 0), 0, none⟩)), (5, .pointer (some ⟨b9, 0, none⟩)), (20, .pointer (some ⟨(φ10 0), 0, none⟩)), (19, .agg #[.slice a5 (List.length (l.take 200)) c5, .int .i64 0, .int .i64 0]), (18, .slice a5 (List.length (l.take 200)) c5)]) (fun φ10 => [(b9, .cells #[.slice a9 (List.length ((l.take 200).take 200)) c9, .int .i64 0] 105), ((φ10 0), .cells #[.slice a5 (List.length (l.take 200)) c5, .int .i64 0, .int .i64 0] 74)]) (fun φ10 => []) s trivial (fun φ10 => by kernel_rfl) ?_
  intro φ10 w10 s
  refine ops_done (by kernel_rfl) ?_
  refine wp_seq ?_
  refine wp_seq ?_
  refine region_rule ?_
  refine ops_rule (C := []) [(b9, .cells #[.slice a9 (List.length ((l.take 200).take 200)) c9, .int .i64 0] 105), ((φ10 0), .cells #[.slice a5 (List.length (l.take 200)) c5, .int .i64 0, .int .i64 0] 74)] [] 3 [] 0 (fun φ11 => [(23, .int .i64 0), (22, .int .i64 ((L.length : Nat) : Int)), (21, .slice a2 L.length c2)]) (fun φ11 => [(b9, .cells #[.slice a9 (List.length ((l.take 200).take 200)) c9, .int .i64 0] 105), ((φ10 0), .cells #[.slice a5 (List.length (l.take 200)) c5, .int .i64 0, .int .i64 0] 74)]) (fun φ11 => []) s trivial (fun φ11 => by kernel_rfl) ?_
  intro φ11 w11 s
  refine ops_done (by kernel_rfl) ?_
  refine wp_block ?_
  replace s := St.perm (H' := [((φ10 0), .cells #[.slice a5 (List.length (l.take 200)) c5, .int .i64 0, .int .i64 0] 74)] ++ [(b9, .cells #[.slice a9 (List.length ((l.take 200).take 200)) c9, .int .i64 0] 105)]) s (move_last 0 (by kernel_rfl) (by kernel_rfl))
  have hle12 := IM.Le.refl I9
  refine loop_rule (fun (x : Nat × Nat × Nat × Option Addr × Nat × Nat) => [(0, .slice a5 (List.length (l.take 200)) c5), (1, .slice a2 L.length c2), (5, .pointer (some ⟨b9, 0, none⟩)), (6, .pointer (some ⟨(φ10 0), 0, none⟩)), (21, .slice a2 L.length c2), (22, .int .i64 ((L.length : Nat) : Int)), (23, .int .i64 ((x.1 : Nat) : Int))]) (fun (x : Nat × Nat × Nat × Option Addr × Nat × Nat) => [((φ10 0), .cells #[.slice a5 (List.length (l.take 200)) c5, .int .i64 ((x.2.1 : Nat) : Int), .int .i64 ((x.2.2.1 : Nat) : Int)] 74), (b9, .cells #[.slice x.2.2.2.1 x.2.2.2.2.1 x.2.2.2.2.2, .int .i64 ((x.2.2.1 : Nat) : Int)] 105)]) (fun m (x : Nat × Nat × Nat × Option Addr × Nat × Nat) J => IM.Le I9 J ∧ x.1 + m = L.length ∧ x.2.1 ≤ List.length (l.take 200) ∧ BSl J ((l.take 200).drop x.2.1) (.slice x.2.2.2.1 x.2.2.2.2.1 x.2.2.2.2.2)) (L.length) (0, 0, 0, a9, (List.length ((l.take 200).take 200)), c9) s (by kernel_rfl) (List.Sublist.cons₂ _ (List.Sublist.cons₂ _ List.Sublist.slnil)) ⟨IM.Le.refl _, Nat.zero_add _, Nat.zero_le _, bsl_eq hb9 drop_zero_take⟩ ?_
  rintro m13 ⟨i13, at13, e13, a13, k13, c13⟩ I13 w13 ev13 s ⟨le13, hi13_0, hi13_1, hi13_2⟩
  try dsimp only at s hi13_0 hi13_1 hi13_2 ⊢
  replace hl := BSl.mono le13 hl
  replace hA := ASl.mono le13 hA
  replace h5_0 := BSl.mono le13 h5_0
  replace h8_0 := BSl.mono le13 h8_0
  replace hb9 := BSl.mono le13 hb9
  replace hle12 := leMono le13 hle12
  refine wp_seq ?_
  refine region_rule ?_
  refine ops_rule (C := []) [((φ10 0), .cells #[.slice a5 (List.length (l.take 200)) c5, .int .i64 ((at13 : Nat) : Int), .int .i64 ((e13 : Nat) : Int)] 74), (b9, .cells #[.slice a13 k13 c13, .int .i64 ((e13 : Nat) : Int)] 105)] [] 1 [] 0 (fun φ14 => [(24, .bool (decide (((i13 : Nat) : Int) < ((L.length : Nat) : Int))))]) (fun φ14 => [((φ10 0), .cells #[.slice a5 (List.length (l.take 200)) c5, .int .i64 ((at13 : Nat) : Int), .int .i64 ((e13 : Nat) : Int)] 74), (b9, .cells #[.slice a13 k13 c13, .int .i64 ((e13 : Nat) : Int)] 105)]) (fun φ14 => []) s trivial (fun φ14 => by kernel_rfl) ?_
  intro φ14 w14 s
  rw [nat_lss (a := i13) (b := L.length)]
  refine ops_done (by kernel_rfl) ?_
  refine wp_seq ?_
  rcases Bool.eq_false_or_eq_true (decide (i13 < L.length)) with hc15 | hc15
  ·
    rw [hc15]
    refine cond_true_rule (b := true) (by kernel_rfl) rfl ?_
    refine wp_skip ?_
    refine wp_seq ?_
    refine wp_block ?_
    refine wp_seq ?_
    refine region_rule ?_
    refine ops_rule (C := []) [((φ10 0), .cells #[.slice a5 (List.length (l.take 200)) c5, .int .i64 ((at13 : Nat) : Int), .int .i64 ((e13 : Nat) : Int)] 74), (b9, .cells #[.slice a13 k13 c13, .int .i64 ((e13 : Nat) : Int)] 105)] [] 1 [] 0 (fun φ16 => [(25, .int .i64 ((i13 : Nat) : Int))]) (fun φ16 => [((φ10 0), .cells #[.slice a5 (List.length (l.take 200)) c5, .int .i64 ((at13 : Nat) : Int), .int .i64 ((e13 : Nat) : Int)] 74), (b9, .cells #[.slice a13 k13 c13, .int .i64 ((e13 : Nat) : Int)] 105)]) (fun φ16 => []) s trivial (fun φ16 => by kernel_rfl) ?_
    intro φ16 w16 s
    refine sem_rule (Instr.indexAt 69 (.slice a2 L.length c2) (.int .i64 ((i13 : Nat) : Int))) (some 26) (.pointer (pAt a2 (i13 * 2))) (by kernel_rfl) (asl_idx hA (by have hb1 := hi13_1; have hD1 := byD_le ((l.take 200).drop at13) e13; have hD2 := nuD_le ((l.take 200).drop at13) e13; have hD3 := teD_le ((l.take 200).drop at13) e13 (L.getD i13 (0, 0)).2; have hw9 := wrapN_lt (L.getD i13 (0, 0)).2; (simp only [List.length_drop, List.length_take] at hb1 hD1 hD2 hD3); have hbd := asl_bd hA (of_decide_eq_true hc15); have hq0 := of_decide_eq_true hc15; omega)) ?_
    refine sem_rule (Instr.loadAt 76 (.pointer (pAt a2 (i13 * 2)))) (some 27) (.agg #[.int .u8 (((L.getD i13 (0, 0)).1 : Nat) : Int), .int .i64 ((L.getD i13 (0, 0)).2)]) (by kernel_rfl) (asl_ld s.sub hA (by have hb1 := hi13_1; have hD1 := byD_le ((l.take 200).drop at13) e13; have hD2 := nuD_le ((l.take 200).drop at13) e13; have hD3 := teD_le ((l.take 200).drop at13) e13 (L.getD i13 (0, 0)).2; have hw9 := wrapN_lt (L.getD i13 (0, 0)).2; (simp only [List.length_drop, List.length_take] at hb1 hD1 hD2 hD3); have hbd := asl_bd hA (of_decide_eq_true hc15); have hq0 := of_decide_eq_true hc15; omega)) ?_
    refine ops_rule (C := []) [((φ10 0), .cells #[.slice a5 (List.length (l.take 200)) c5, .int .i64 ((at13 : Nat) : Int), .int .i64 ((e13 : Nat) : Int)] 74), (b9, .cells #[.slice a13 k13 c13, .int .i64 ((e13 : Nat) : Int)] 105)] [] 3 [.o 2, .o 2] 1 (fun φ17 => [(7, .int .i64 ((i13 : Nat) : Int)), (8, .pointer (some ⟨(φ17 0), 0, none⟩))]) (fun φ17 => [((φ10 0), .cells #[.slice a5 (List.length (l.take 200)) c5, .int .i64 ((at13 : Nat) : Int), .int .i64 ((e13 : Nat) : Int)] 74), (b9, .cells #[.slice a13 k13 c13, .int .i64 ((e13 : Nat) : Int)] 105), ((φ17 0), .cells #[.int .u8 (((L.getD i13 (0, 0)).1 : Nat) : Int), .int .i64 ((L.getD i13 (0, 0)).2)] 76)]) (fun φ17 => [(φ17 0), (φ17 0)]) s trivial (fun φ17 => by kernel_rfl) ?_
    intro φ17 w17 s
    obtain ⟨I18, le18, hk18, s⟩ := s.freezeAt 2 (φ17 0) (.cells #[.int .u8 (((L.getD i13 (0, 0)).1 : Nat) : Int), .int .i64 ((L.getD i13 (0, 0)).2)] 76) [((φ10 0), .cells #[.slice a5 (List.length (l.take 200)) c5, .int .i64 ((at13 : Nat) : Int), .int .i64 ((e13 : Nat) : Int)] 74), (b9, .cells #[.slice a13 k13 c13, .int .i64 ((e13 : Nat) : Int)] 105)] (by kernel_rfl) (by kernel_rfl)
    replace hl := BSl.mono le18 hl
    replace hA := ASl.mono le18 hA
    replace h5_0 := BSl.mono le18 h5_0
    replace h8_0 := BSl.mono le18 h8_0
    replace hb9 := BSl.mono le18 hb9
    replace hle12 := leMono le18 hle12
    replace hi13_2 := BSl.mono le18 hi13_2
    refine ops_done (by kernel_rfl) ?_
    refine wp_seq ?_
    refine wp_seq ?_
    refine region_rule ?_
    refine ops_rule (C := []) [((φ10 0), .cells #[.slice a5 (List.length (l.take 200)) c5, .int .i64 ((at13 : Nat) : Int), .int .i64 ((e13 : Nat) : Int)] 74), (b9, .cells #[.slice a13 k13 c13, .int .i64 ((e13 : Nat) : Int)] 105)] [] 2 [] 0 (fun φ19 => [(29, .bool (decide (((i13 : Nat) : Int) ≥ ((30 : Nat) : Int)))), (28, .int .i64 ((i13 : Nat) : Int))]) (fun φ19 => [((φ10 0), .cells #[.slice a5 (List.length (l.take 200)) c5, .int .i64 ((at13 : Nat) : Int), .int .i64 ((e13 : Nat) : Int)] 74), (b9, .cells #[.slice a13 k13 c13, .int .i64 ((e13 : Nat) : Int)] 105)]) (fun φ19 => []) s trivial (fun φ19 => by kernel_rfl) ?_
    intro φ19 w19 s
    rw [nat_geq (a := i13) (b := 30)]
    refine ops_done (by kernel_rfl) ?_
    rcases Bool.eq_false_or_eq_true (decide (30 ≤ i13)) with hc20 | hc20
    ·
      rw [hc20]
      refine cond_true_rule (b := true) (by kernel_rfl) rfl ?_
      refine wp_exit ?_
      refine wp_seq ?_
      refine region_rule ?_
      refine ops_rule (C := []) [((φ10 0), .cells #[.slice a5 (List.length (l.take 200)) c5, .int .i64 ((at13 : Nat) : Int), .int .i64 ((e13 : Nat) : Int)] 74), (b9, .cells #[.slice a13 k13 c13, .int .i64 ((e13 : Nat) : Int)] 105)] [] 1 [] 0 (fun φ21 => [(4, .bool true)]) (fun φ21 => [((φ10 0), .cells #[.slice a5 (List.length (l.take 200)) c5, .int .i64 ((at13 : Nat) : Int), .int .i64 ((e13 : Nat) : Int)] 74), (b9, .cells #[.slice a13 k13 c13, .int .i64 ((e13 : Nat) : Int)] 105)]) (fun φ21 => []) s trivial (fun φ21 => by kernel_rfl) ?_
      intro φ21 w21 s
      refine ops_done (by kernel_rfl) ?_
      refine wp_ret ?_
      refine ret_rule (C := []) [((φ10 0), .cells #[.slice a5 (List.length (l.take 200)) c5, .int .i64 ((at13 : Nat) : Int), .int .i64 ((e13 : Nat) : Int)] 74), (b9, .cells #[.slice a13 k13 c13, .int .i64 ((e13 : Nat) : Int)] 105)] [] (.bool true) [] [] s trivial (by kernel_rfl) ?_
      exact ⟨_, _, _, rfl, s, rfl⟩
    ·
      rw [hc20]
      refine cond_false_rule (b := false) (by kernel_rfl) rfl ?_
      refine wp_skip ?_
      refine wp_seq ?_
      refine region_rule ?_
      refine ops_rule (C := []) [((φ10 0), .cells #[.slice a5 (List.length (l.take 200)) c5, .int .i64 ((at13 : Nat) : Int), .int .i64 ((e13 : Nat) : Int)] 74), (b9, .cells #[.slice a13 k13 c13, .int .i64 ((e13 : Nat) : Int)] 105)] [] 1 [] 0 (fun φ22 => [(9, .bool true)]) (fun φ22 => [((φ10 0), .cells #[.slice a5 (List.length (l.take 200)) c5, .int .i64 ((at13 : Nat) : Int), .int .i64 ((e13 : Nat) : Int)] 74), (b9, .cells #[.slice a13 k13 c13, .int .i64 ((e13 : Nat) : Int)] 105)]) (fun φ22 => []) s trivial (fun φ22 => by kernel_rfl) ?_
      intro φ22 w22 s
      refine ops_done (by kernel_rfl) ?_
      refine wp_seq ?_
      refine wp_seq ?_
      refine region_rule ?_
      refine ops_rule (C := [((φ17 0), .cells #[.int .u8 (((L.getD i13 (0, 0)).1 : Nat) : Int), .int .i64 ((L.getD i13 (0, 0)).2)] 76)]) [((φ10 0), .cells #[.slice a5 (List.length (l.take 200)) c5, .int .i64 ((at13 : Nat) : Int), .int .i64 ((e13 : Nat) : Int)] 74), (b9, .cells #[.slice a13 k13 c13, .int .i64 ((e13 : Nat) : Int)] 105)] [] 3 [.c 0] 0 (fun φ23 => [(32, .int .u8 (Int.tmod (((L.getD i13 (0, 0)).1 : Nat) : Int) ((5 : Nat) : Int))), (31, .int .u8 (((L.getD i13 (0, 0)).1 : Nat) : Int)), (30, .pointer (some ⟨(φ17 0), 0, none⟩))]) (fun φ23 => [((φ10 0), .cells #[.slice a5 (List.length (l.take 200)) c5, .int .i64 ((at13 : Nat) : Int), .int .i64 ((e13 : Nat) : Int)] 74), (b9, .cells #[.slice a13 k13 c13, .int .i64 ((e13 : Nat) : Int)] 105)]) (fun φ23 => [(φ17 0)]) s ⟨hk18, trivial⟩ (fun φ23 => by kernel_rfl) ?_
      intro φ23 w23 s
      rw [nat_rem (a := ((L.getD i13 (0, 0)).1)) (b := 5)]
      refine ops_done (by kernel_rfl) ?_
      refine wp_block ?_
      refine wp_seq ?_
      refine region_rule ?_
      refine ops_rule (C := []) [((φ10 0), .cells #[.slice a5 (List.length (l.take 200)) c5, .int .i64 ((at13 : Nat) : Int), .int .i64 ((e13 : Nat) : Int)] 74), (b9, .cells #[.slice a13 k13 c13, .int .i64 ((e13 : Nat) : Int)] 105)] [] 2 [] 0 (fun φ24 => [(38, .bool (((((L.getD i13 (0, 0)).1) % 5 : Nat) : Int) == ((0 : Nat) : Int))), (39, .bool (((((L.getD i13 (0, 0)).1) % 5 : Nat) : Int) == ((0 : Nat) : Int)))]) (fun φ24 => [((φ10 0), .cells #[.slice a5 (List.length (l.take 200)) c5, .int .i64 ((at13 : Nat) : Int), .int .i64 ((e13 : Nat) : Int)] 74), (b9, .cells #[.slice a13 k13 c13, .int .i64 ((e13 : Nat) : Int)] 105)]) (fun φ24 => []) s trivial (fun φ24 => by kernel_rfl) ?_
      intro φ24 w24 s
      rw [nat_eql (a := (((L.getD i13 (0, 0)).1) % 5)) (b := 0)]
      refine ops_done (by kernel_rfl) ?_
      rcases Bool.eq_false_or_eq_true (decide ((((L.getD i13 (0, 0)).1) % 5) = 0)) with hc25 | hc25
      ·
        rw [hc25]
        refine cond_true_rule (b := true) (by kernel_rfl) rfl ?_
        refine region_rule ?_
        refine ops_rule (C := []) [((φ10 0), .cells #[.slice a5 (List.length (l.take 200)) c5, .int .i64 ((at13 : Nat) : Int), .int .i64 ((e13 : Nat) : Int)] 74), (b9, .cells #[.slice a13 k13 c13, .int .i64 ((e13 : Nat) : Int)] 105)] [] 1 [] 0 (fun φ26 => [(40, .pointer (some ⟨b9, 0, none⟩))]) (fun φ26 => [((φ10 0), .cells #[.slice a5 (List.length (l.take 200)) c5, .int .i64 ((at13 : Nat) : Int), .int .i64 ((e13 : Nat) : Int)] 74), (b9, .cells #[.slice a13 k13 c13, .int .i64 ((e13 : Nat) : Int)] 105)]) (fun φ26 => []) s trivial (fun φ26 => by kernel_rfl) ?_
        intro φ26 w26 s
        refine callB_rule (b := (b9, .cells #[.slice a13 k13 c13, .int .i64 ((e13 : Nat) : Int)] 105)) (H := [((φ10 0), .cells #[.slice a5 (List.length (l.take 200)) c5, .int .i64 ((at13 : Nat) : Int), .int .i64 ((e13 : Nat) : Int)] 74), (b9, .cells #[.slice a13 k13 c13, .int .i64 ((e13 : Nat) : Int)] 105)]) (F := []) (Hr := [((φ10 0), .cells #[.slice a5 (List.length (l.take 200)) c5, .int .i64 ((at13 : Nat) : Int), .int .i64 ((e13 : Nat) : Int)] 74)]) (some 41) 1 s (by kernel_rfl) (by kernel_rfl) (byteG_c (r := b9) (e := e13) hi13_2 (by simp only [List.length_drop, List.length_take]; omega)) (by kernel_rfl) ?_
        rintro v27 I27 w27 b27 le27 - h27 s
        replace hl := BSl.mono le27 hl
        replace hA := ASl.mono le27 hA
        replace h5_0 := BSl.mono le27 h5_0
        replace h8_0 := BSl.mono le27 h8_0
        replace hb9 := BSl.mono le27 hb9
        replace hle12 := leMono le27 hle12
        replace hi13_2 := BSl.mono le27 hi13_2
        replace hk18 := le27 _ _ hk18
        obtain ⟨a27, k27, c27, rfl, rfl, h27_0⟩ := h27
        refine ops_rule (C := []) [(b9, .cells #[.slice a27 k27 c27, .int .i64 ((byE ((l.take 200).drop at13) e13 : Nat) : Int)] 105), ((φ10 0), .cells #[.slice a5 (List.length (l.take 200)) c5, .int .i64 ((at13 : Nat) : Int), .int .i64 ((e13 : Nat) : Int)] 74)] [] 1 [] 0 (fun φ28 => [(42, .pointer (some ⟨(φ10 0), 0, none⟩))]) (fun φ28 => [(b9, .cells #[.slice a27 k27 c27, .int .i64 ((byE ((l.take 200).drop at13) e13 : Nat) : Int)] 105), ((φ10 0), .cells #[.slice a5 (List.length (l.take 200)) c5, .int .i64 ((at13 : Nat) : Int), .int .i64 ((e13 : Nat) : Int)] 74)]) (fun φ28 => []) s trivial (fun φ28 => by kernel_rfl) ?_
        intro φ28 w28 s
        refine callB_rule (b := ((φ10 0), .cells #[.slice a5 (List.length (l.take 200)) c5, .int .i64 ((at13 : Nat) : Int), .int .i64 ((e13 : Nat) : Int)] 74)) (H := [(b9, .cells #[.slice a27 k27 c27, .int .i64 ((byE ((l.take 200).drop at13) e13 : Nat) : Int)] 105), ((φ10 0), .cells #[.slice a5 (List.length (l.take 200)) c5, .int .i64 ((at13 : Nat) : Int), .int .i64 ((e13 : Nat) : Int)] 74)]) (F := []) (Hr := [(b9, .cells #[.slice a27 k27 c27, .int .i64 ((byE ((l.take 200).drop at13) e13 : Nat) : Int)] 105)]) (some 43) 1 s (by kernel_rfl) (by kernel_rfl) (refByte_c (x := (φ10 0)) (at0 := at13) (e := e13) h5_0 (by simp only [List.length_drop, List.length_take]; omega) hi13_1) (by kernel_rfl) ?_
        rintro v29 I29 w29 b29 le29 - h29 s
        replace hl := BSl.mono le29 hl
        replace hA := ASl.mono le29 hA
        replace h5_0 := BSl.mono le29 h5_0
        replace h8_0 := BSl.mono le29 h8_0
        replace hb9 := BSl.mono le29 hb9
        replace hle12 := leMono le29 hle12
        replace hi13_2 := BSl.mono le29 hi13_2
        replace h27_0 := BSl.mono le29 h27_0
        replace hk18 := le29 _ _ hk18
        obtain ⟨rfl, rfl⟩ := h29
        refine ops_rule (C := []) [((φ10 0), .cells #[.slice a5 (List.length (l.take 200)) c5, .int .i64 ((at13 + (byD ((l.take 200).drop at13) e13) : Nat) : Int), .int .i64 ((byE ((l.take 200).drop at13) e13 : Nat) : Int)] 74), (b9, .cells #[.slice a27 k27 c27, .int .i64 ((byE ((l.take 200).drop at13) e13 : Nat) : Int)] 105)] [] 2 [] 0 (fun φ30 => [(9, .bool (((byV ((l.take 200).drop at13) e13 : Nat) : Int) == ((byV ((l.take 200).drop at13) e13 : Nat) : Int))), (44, .bool (((byV ((l.take 200).drop at13) e13 : Nat) : Int) == ((byV ((l.take 200).drop at13) e13 : Nat) : Int)))]) (fun φ30 => [((φ10 0), .cells #[.slice a5 (List.length (l.take 200)) c5, .int .i64 ((at13 + (byD ((l.take 200).drop at13) e13) : Nat) : Int), .int .i64 ((byE ((l.take 200).drop at13) e13 : Nat) : Int)] 74), (b9, .cells #[.slice a27 k27 c27, .int .i64 ((byE ((l.take 200).drop at13) e13 : Nat) : Int)] 105)]) (fun φ30 => []) s trivial (fun φ30 => by kernel_rfl) ?_
        intro φ30 w30 s
        rw [(nat_eql (a := (byV ((l.take 200).drop at13) e13)) (b := (byV ((l.take 200).drop at13) e13))).trans (decide_eq_true rfl)]
        refine ops_done (by kernel_rfl) ?_
        refine wp_seq ?_
        have hz31 := St.none0 s (g := b9) (o := .cells #[.slice a27 k27 c27, .int .i64 ((byE ((l.take 200).drop at13) e13 : Nat) : Int)] 105) (by simp)
        have hT31 := IM.Le.refl I29
        have hlK31 := hl
        have hAK31 := hA
        have h5_0K31 := h5_0
        have h8_0K31 := h8_0
        have hb9K31 := hb9
        have hle12K31 := hle12
        have hi13_2K31 := hi13_2
        have h27_0K31 := h27_0
        have hk18K31 := hk18
        obtain ⟨I32, le32, hk32, s⟩ := s.freezeAt 1 b9 (.cells #[.slice a27 k27 c27, .int .i64 ((byE ((l.take 200).drop at13) e13 : Nat) : Int)] 105) [((φ10 0), .cells #[.slice a5 (List.length (l.take 200)) c5, .int .i64 ((at13 + (byD ((l.take 200).drop at13) e13) : Nat) : Int), .int .i64 ((byE ((l.take 200).drop at13) e13 : Nat) : Int)] 74)] (by kernel_rfl) (by kernel_rfl)
        replace hl := BSl.mono le32 hl
        replace hA := ASl.mono le32 hA
        replace h5_0 := BSl.mono le32 h5_0
        replace h8_0 := BSl.mono le32 h8_0
        replace hb9 := BSl.mono le32 hb9
        replace hle12 := leMono le32 hle12
        replace hi13_2 := BSl.mono le32 hi13_2
        replace h27_0 := BSl.mono le32 h27_0
        replace hT31 := leMono le32 hT31
        replace hk18 := le32 _ _ hk18
        refine draw_rule (C := []) ⟨(fun φ33 xs33 => [.look 0 [] [], .look 0 [] [], .look 0 [] [], .look 0 [] [], .call 55 #[.pointer (some ⟨b9, 0, none⟩)], .look 0 [] [], .look 0 [] [], .look 0 [] [], .look 0 [.o 0] [(φ10 0)], .sub 0 [] [] (.bool (((byE ((l.take 200).drop at13) e13 : Nat) : Int) != ((byE ((l.take 200).drop at13) e13 : Nat) : Int))), .look 0 [] [], .look 0 [] [], .look 0 [] [], .call 56 #[.pointer (some ⟨b9, 0, none⟩)], .look 0 [] [], .look 0 [] [], .look 0 [] [], .look 0 [] [], .look 0 [] [], .look 0 [.o 0] [(φ10 0)], .sub 0 [] [] (.int .i64 (IntKind.wrap .i64 ((((List.length (l.take 200)) : Nat) : Int) - ((at13 + (byD ((l.take 200).drop at13) e13) : Nat) : Int)))), .sub 0 [] [] (.bool (((k27 : Nat) : Int) != (((List.length (l.take 200)) - (at13 + (byD ((l.take 200).drop at13) e13)) : Nat) : Int))), .look 0 [] []]), (fun φ33 xs33 => [.bool true, .bool false, .bool false, .pointer (some ⟨b9, 0, none⟩), .int .i64 ((byE ((l.take 200).drop at13) e13 : Nat) : Int), .pointer (some ⟨(φ10 0), 0, none⟩), .pointer (some ⟨(φ10 0), 0, none⟩), .pointer (some ⟨(φ10 0), 2, none⟩), .int .i64 ((byE ((l.take 200).drop at13) e13 : Nat) : Int), .bool false, .bool false, .bool false, .pointer (some ⟨b9, 0, none⟩), .int .i64 ((k27 : Nat) : Int), .slice a5 (List.length (l.take 200)) c5, .int .i64 (((List.length (l.take 200)) : Nat) : Int), .pointer (some ⟨(φ10 0), 0, none⟩), .pointer (some ⟨(φ10 0), 0, none⟩), .pointer (some ⟨(φ10 0), 1, none⟩), .int .i64 ((at13 + (byD ((l.take 200).drop at13) e13) : Nat) : Int), .int .i64 (((List.length (l.take 200)) - (at13 + (byD ((l.take 200).drop at13) e13)) : Nat) : Int), .bool (decide (k27 ≠ ((List.length (l.take 200)) - (at13 + (byD ((l.take 200).drop at13) e13))))), .bool (decide (k27 ≠ ((List.length (l.take 200)) - (at13 + (byD ((l.take 200).drop at13) e13)))))]), (fun φ33 xs33 => [[((φ10 0), .cells #[.slice a5 (List.length (l.take 200)) c5, .int .i64 ((at13 + (byD ((l.take 200).drop at13) e13) : Nat) : Int), .int .i64 ((byE ((l.take 200).drop at13) e13 : Nat) : Int)] 74)]]), (fun φ33 xs33 => [[default, default, default, default, default, default, default, default, default, default, default, default, default, default, default, default, default, default, default, default, default, default, default]]), [], [1, 1, 1, 1, 3, 1, 1, 1, 1, 5, 1, 1, 1, 3, 1, 1, 1, 1, 1, 1, 5, 5, 1]⟩ (fun j => ([MP.any, MP.any, MP.any, MP.any, MP.any, MP.any, MP.any, MP.any, MP.any, MP.any, MP.any, MP.any, MP.any, MP.any, MP.any, MP.any, MP.any, MP.any, MP.any, MP.any, MP.any, MP.any, MP.any] : List MP).getD j MP.any) [4, 13] [9, 20, 21] [] (fun φ33 xs33 => []) (fun φ33 xs33 => [(77, .bool true), (78, .bool false), (79, .bool false), (80, .pointer (some ⟨b9, 0, none⟩)), (81, .int .i64 ((byE ((l.take 200).drop at13) e13 : Nat) : Int)), (82, .pointer (some ⟨(φ10 0), 0, none⟩)), (83, .pointer (some ⟨(φ10 0), 0, none⟩)), (84, .pointer (some ⟨(φ10 0), 2, none⟩)), (85, .int .i64 ((byE ((l.take 200).drop at13) e13 : Nat) : Int)), (86, .bool false), (87, .bool false), (88, .bool false), (89, .pointer (some ⟨b9, 0, none⟩)), (90, .int .i64 ((k27 : Nat) : Int)), (91, .slice a5 (List.length (l.take 200)) c5), (92, .int .i64 (((List.length (l.take 200)) : Nat) : Int)), (93, .pointer (some ⟨(φ10 0), 0, none⟩)), (94, .pointer (some ⟨(φ10 0), 0, none⟩)), (95, .pointer (some ⟨(φ10 0), 1, none⟩)), (96, .int .i64 ((at13 + (byD ((l.take 200).drop at13) e13) : Nat) : Int)), (97, .int .i64 (((List.length (l.take 200)) - (at13 + (byD ((l.take 200).drop at13) e13)) : Nat) : Int)), (98, .bool (decide (k27 ≠ ((List.length (l.take 200)) - (at13 + (byD ((l.take 200).drop at13) e13)))))), (99, .bool (decide (k27 ≠ ((List.length (l.take 200)) - (at13 + (byD ((l.take 200).drop at13) e13))))))]) (fun φ33 xs33 => [((φ10 0), .cells #[.slice a5 (List.length (l.take 200)) c5, .int .i64 ((at13 + (byD ((l.take 200).drop at13) e13) : Nat) : Int), .int .i64 ((byE ((l.take 200).drop at13) e13 : Nat) : Int)] 74)]) s trivial (by kernel_rfl) (by kernel_rfl) (fun _ _ => by kernel_rfl) (fun _ _ => by kernel_rfl) ⟨fun _ _ => by kernel_rfl, fun _ _ => by kernel_rfl, fun _ _ => by kernel_rfl, fun _ _ => by kernel_rfl⟩ (fun _ _ _ => by kernel_rfl) (fun _ _ => by kernel_rfl) (fun _ _ => by kernel_rfl) (fun _ _ => by kernel_rfl) (fun _ _ => by kernel_rfl) (fun _ _ => by kernel_rfl) ⟨kcast (A := ∀ (φ33 : Nat → Nat) (xs33 : Xs), (.bool (((byE ((l.take 200).drop at13) e13 : Nat) : Int) != ((byE ((l.take 200).drop at13) e13 : Nat) : Int)) : Value) = .bool false) (by kernel_rfl) (fun φ33 xs33 => congrArg Value.bool (((nat_neq (a := (byE ((l.take 200).drop at13) e13)) (b := (byE ((l.take 200).drop at13) e13))).trans (decide_eq_false (fun q => q rfl))))), ⟨kcast (A := ∀ (φ33 : Nat → Nat) (xs33 : Xs), (.int .i64 (IntKind.wrap .i64 ((((List.length (l.take 200)) : Nat) : Int) - ((at13 + (byD ((l.take 200).drop at13) e13) : Nat) : Int))) : Value) = .int .i64 (((List.length (l.take 200)) - (at13 + (byD ((l.take 200).drop at13) e13)) : Nat) : Int)) (by kernel_rfl) (fun φ33 xs33 => congrArg (Value.int .i64) ((nat_subI (a := (List.length (l.take 200))) (b := (at13 + (byD ((l.take 200).drop at13) e13))) (by have hb1 := hi13_1; have hD1 := byD_le ((l.take 200).drop at13) e13; have hD2 := nuD_le ((l.take 200).drop at13) e13; have hD3 := teD_le ((l.take 200).drop at13) e13 (L.getD i13 (0, 0)).2; have hw9 := wrapN_lt (L.getD i13 (0, 0)).2; (simp only [List.length_drop, List.length_take] at hb1 hD1 hD2 hD3); have hbd := asl_bd hA (of_decide_eq_true hc15); have hq0 := of_decide_eq_true hc15; have hq1 := of_decide_eq_false hc20; have hq2 := of_decide_eq_true hc25; (try simp only [List.length_drop, List.length_take, List.length_append, List.length_cons, List.length_nil]); omega) (by have hb1 := hi13_1; have hD1 := byD_le ((l.take 200).drop at13) e13; have hD2 := nuD_le ((l.take 200).drop at13) e13; have hD3 := teD_le ((l.take 200).drop at13) e13 (L.getD i13 (0, 0)).2; have hw9 := wrapN_lt (L.getD i13 (0, 0)).2; (simp only [List.length_drop, List.length_take] at hb1 hD1 hD2 hD3); have hbd := asl_bd hA (of_decide_eq_true hc15); have hq0 := of_decide_eq_true hc15; have hq1 := of_decide_eq_false hc20; have hq2 := of_decide_eq_true hc25; (try simp only [List.length_drop, List.length_take, List.length_append, List.length_cons, List.length_nil]); omega)))), ⟨kcast (A := ∀ (φ33 : Nat → Nat) (xs33 : Xs), (.bool (((k27 : Nat) : Int) != (((List.length (l.take 200)) - (at13 + (byD ((l.take 200).drop at13) e13)) : Nat) : Int)) : Value) = .bool (decide (k27 ≠ ((List.length (l.take 200)) - (at13 + (byD ((l.take 200).drop at13) e13)))))) (by kernel_rfl) (fun φ33 xs33 => congrArg Value.bool ((nat_neq (a := k27) (b := ((List.length (l.take 200)) - (at13 + (byD ((l.take 200).drop at13) e13))))))), trivial⟩⟩⟩ trivial (by kernel_rfl) ⟨?c33_4, ?c33_13, trivial⟩ ?k33
        case c33_4 =>
          refine kcast (A := ∀ (φ33 : Nat → Nat) (xs33 : Xs) (J4_33 : IM), I32.Le J4_33 → Fun Try.prog 55 #[.pointer (some ⟨b9, 0, none⟩)] J4_33 (fun v J' => ∃ x : UX, v = .int .i64 ((byE ((l.take 200).drop at13) e13 : Nat) : Int) ∧ (True))) (by kernel_rfl) ?_
          intro φ33 xs33 J4_33 leJ
          have hk32 := leJ _ _ hk32
          exact Fun.mono (errF_c hk32) (fun v J' _ h => ⟨UX.d, h, trivial⟩)
        case c33_13 =>
          refine kcast (A := ∀ (φ33 : Nat → Nat) (xs33 : Xs) (J13_33 : IM), I32.Le J13_33 → (True) → Fun Try.prog 56 #[.pointer (some ⟨b9, 0, none⟩)] J13_33 (fun v J' => ∃ x : UX, v = .int .i64 ((k27 : Nat) : Int) ∧ (True))) (by kernel_rfl) ?_
          intro φ33 xs33 J13_33 leJ
          rintro _
          have hk32 := leJ _ _ hk32
          exact Fun.mono (leftF_c hk32) (fun v J' _ h => ⟨UX.d, h, trivial⟩)
        case k33 =>
          rintro φ33 xs33 I33 w33 le33 s _ _
          replace hl := BSl.mono le33 hl
          replace hA := ASl.mono le33 hA
          replace h5_0 := BSl.mono le33 h5_0
          replace h8_0 := BSl.mono le33 h8_0
          replace hb9 := BSl.mono le33 hb9
          replace hle12 := leMono le33 hle12
          replace hi13_2 := BSl.mono le33 hi13_2
          replace h27_0 := BSl.mono le33 h27_0
          replace hT31 := leMono le33 hT31
          replace hk18 := le33 _ _ hk18
          replace hk32 := le33 _ _ hk32
          replace s := St.thaw s hk32 hz31.2.1 hz31.2.2
          have leT31 := IM.le_del (g := b9) hT31 hz31.1
          generalize IM.del I33 b9 = J31 at s leT31
          replace hl := BSl.mono leT31 hlK31
          replace hA := ASl.mono leT31 hAK31
          replace h5_0 := BSl.mono leT31 h5_0K31
          replace h8_0 := BSl.mono leT31 h8_0K31
          replace hb9 := BSl.mono leT31 hb9K31
          replace hle12 := leMono leT31 hle12K31
          replace hi13_2 := BSl.mono leT31 hi13_2K31
          replace h27_0 := BSl.mono leT31 h27_0K31
          replace hk18 := leT31 _ _ hk18K31
          rcases Bool.eq_false_or_eq_true (decide (k27 ≠ ((List.length (l.take 200)) - (at13 + (byD ((l.take 200).drop at13) e13))))) with hc34 | hc34
          ·
            exact absurd (of_decide_eq_true hc34) (by have hk9 := (h27_0).cap.1; have hb1 := hi13_1; have hD1 := byD_le ((l.take 200).drop at13) e13; have hD2 := nuD_le ((l.take 200).drop at13) e13; have hD3 := teD_le ((l.take 200).drop at13) e13 (L.getD i13 (0, 0)).2; have hw9 := wrapN_lt (L.getD i13 (0, 0)).2; (simp only [List.length_drop, List.length_take] at hb1 hD1 hD2 hD3); have hbd := asl_bd hA (of_decide_eq_true hc15); simp only [List.length_drop, List.length_take, List.length_append, List.length_cons, List.length_nil] at hk9 ⊢; omega)
          ·
            rw [hc34]
            refine cond_false_rule (b := false) (by kernel_rfl) rfl ?_
            refine wp_skip ?_
            refine region_rule ?_
            refine ops_rule (C := []) [((φ10 0), .cells #[.slice a5 (List.length (l.take 200)) c5, .int .i64 ((at13 + (byD ((l.take 200).drop at13) e13) : Nat) : Int), .int .i64 ((byE ((l.take 200).drop at13) e13 : Nat) : Int)] 74), (b9, .cells #[.slice a27 k27 c27, .int .i64 ((byE ((l.take 200).drop at13) e13 : Nat) : Int)] 105)] [] 2 [] 0 (fun φ35 => [(23, .int .i64 (IntKind.wrap .i64 (((i13 : Nat) : Int) + ((1 : Nat) : Int)))), (100, .int .i64 (IntKind.wrap .i64 (((i13 : Nat) : Int) + ((1 : Nat) : Int))))]) (fun φ35 => [((φ10 0), .cells #[.slice a5 (List.length (l.take 200)) c5, .int .i64 ((at13 + (byD ((l.take 200).drop at13) e13) : Nat) : Int), .int .i64 ((byE ((l.take 200).drop at13) e13 : Nat) : Int)] 74), (b9, .cells #[.slice a27 k27 c27, .int .i64 ((byE ((l.take 200).drop at13) e13 : Nat) : Int)] 105)]) (fun φ35 => []) s trivial (fun φ35 => by kernel_rfl) ?_
            intro φ35 w35 s
            rw [nat_addI (a := i13) (b := 1) (by have hb1 := hi13_1; have hD1 := byD_le ((l.take 200).drop at13) e13; have hD2 := nuD_le ((l.take 200).drop at13) e13; have hD3 := teD_le ((l.take 200).drop at13) e13 (L.getD i13 (0, 0)).2; have hw9 := wrapN_lt (L.getD i13 (0, 0)).2; (simp only [List.length_drop, List.length_take] at hb1 hD1 hD2 hD3); have hbd := asl_bd hA (of_decide_eq_true hc15); have hq0 := of_decide_eq_true hc15; have hq1 := of_decide_eq_false hc20; have hq2 := of_decide_eq_true hc25; have hq3 := of_decide_eq_false hc34; omega)]
            refine ops_done (by kernel_rfl) ?_
            exact ⟨⟨m13 - 1, (i13 + 1, at13 + (byD ((l.take 200).drop at13) e13), byE ((l.take 200).drop at13) e13, a27, k27, c27), _, _, _, by have hq0 := of_decide_eq_true hc15; have hq1 := of_decide_eq_false hc20; have hq2 := of_decide_eq_true hc25; have hq3 := of_decide_eq_false hc34; have := hi13_0; omega, rfl, s, (List.Sublist.cons₂ _ (List.Sublist.cons₂ _ List.Sublist.slnil)), by kernel_rfl, hle12, by have hq0 := of_decide_eq_true hc15; have hq1 := of_decide_eq_false hc20; have hq2 := of_decide_eq_true hc25; have hq3 := of_decide_eq_false hc34; have := hi13_0; show i13 + 1 + (m13 - 1) = L.length; omega, by have hb1 := hi13_1; have hD1 := byD_le ((l.take 200).drop at13) e13; have hD2 := nuD_le ((l.take 200).drop at13) e13; have hD3 := teD_le ((l.take 200).drop at13) e13 (L.getD i13 (0, 0)).2; have hw9 := wrapN_lt (L.getD i13 (0, 0)).2; (simp only [List.length_drop, List.length_take] at hb1 hD1 hD2 hD3); have hbd := asl_bd hA (of_decide_eq_true hc15); show _ ≤ _; (try simp only [List.length_drop, List.length_take, List.length_append, List.length_cons, List.length_nil]); omega, bsl_eq h27_0 (by rw [List.drop_drop])⟩⟩
      ·
        rw [hc25]
        refine cond_false_rule (b := false) (by kernel_rfl) rfl ?_
        refine wp_seq ?_
        refine region_rule ?_
        refine ops_rule (C := []) [((φ10 0), .cells #[.slice a5 (List.length (l.take 200)) c5, .int .i64 ((at13 : Nat) : Int), .int .i64 ((e13 : Nat) : Int)] 74), (b9, .cells #[.slice a13 k13 c13, .int .i64 ((e13 : Nat) : Int)] 105)] [] 2 [] 0 (fun φ36 => [(45, .bool (((((L.getD i13 (0, 0)).1) % 5 : Nat) : Int) == ((1 : Nat) : Int))), (46, .bool (((((L.getD i13 (0, 0)).1) % 5 : Nat) : Int) == ((1 : Nat) : Int)))]) (fun φ36 => [((φ10 0), .cells #[.slice a5 (List.length (l.take 200)) c5, .int .i64 ((at13 : Nat) : Int), .int .i64 ((e13 : Nat) : Int)] 74), (b9, .cells #[.slice a13 k13 c13, .int .i64 ((e13 : Nat) : Int)] 105)]) (fun φ36 => []) s trivial (fun φ36 => by kernel_rfl) ?_
        intro φ36 w36 s
        rw [nat_eql (a := (((L.getD i13 (0, 0)).1) % 5)) (b := 1)]
        refine ops_done (by kernel_rfl) ?_
        rcases Bool.eq_false_or_eq_true (decide ((((L.getD i13 (0, 0)).1) % 5) = 1)) with hc37 | hc37
        ·
          rw [hc37]
          refine cond_true_rule (b := true) (by kernel_rfl) rfl ?_
          refine region_rule ?_
          refine ops_rule (C := []) [((φ10 0), .cells #[.slice a5 (List.length (l.take 200)) c5, .int .i64 ((at13 : Nat) : Int), .int .i64 ((e13 : Nat) : Int)] 74), (b9, .cells #[.slice a13 k13 c13, .int .i64 ((e13 : Nat) : Int)] 105)] [] 1 [] 0 (fun φ38 => [(47, .pointer (some ⟨b9, 0, none⟩))]) (fun φ38 => [((φ10 0), .cells #[.slice a5 (List.length (l.take 200)) c5, .int .i64 ((at13 : Nat) : Int), .int .i64 ((e13 : Nat) : Int)] 74), (b9, .cells #[.slice a13 k13 c13, .int .i64 ((e13 : Nat) : Int)] 105)]) (fun φ38 => []) s trivial (fun φ38 => by kernel_rfl) ?_
          intro φ38 w38 s
          refine callB_rule (b := (b9, .cells #[.slice a13 k13 c13, .int .i64 ((e13 : Nat) : Int)] 105)) (H := [((φ10 0), .cells #[.slice a5 (List.length (l.take 200)) c5, .int .i64 ((at13 : Nat) : Int), .int .i64 ((e13 : Nat) : Int)] 74), (b9, .cells #[.slice a13 k13 c13, .int .i64 ((e13 : Nat) : Int)] 105)]) (F := []) (Hr := [((φ10 0), .cells #[.slice a5 (List.length (l.take 200)) c5, .int .i64 ((at13 : Nat) : Int), .int .i64 ((e13 : Nat) : Int)] 74)]) (some 48) 1 s (by kernel_rfl) (by kernel_rfl) (numG_c (r := b9) (e := e13) hi13_2 (by simp only [List.length_drop, List.length_take]; omega)) (by kernel_rfl) ?_
          rintro v39 I39 w39 b39 le39 - h39 s
          replace hl := BSl.mono le39 hl
          replace hA := ASl.mono le39 hA
          replace h5_0 := BSl.mono le39 h5_0
          replace h8_0 := BSl.mono le39 h8_0
          replace hb9 := BSl.mono le39 hb9
          replace hle12 := leMono le39 hle12
          replace hi13_2 := BSl.mono le39 hi13_2
          replace hk18 := le39 _ _ hk18
          obtain ⟨a39, k39, c39, rfl, rfl, h39_0⟩ := h39
          refine ops_rule (C := []) [(b9, .cells #[.slice a39 k39 c39, .int .i64 ((nuE ((l.take 200).drop at13) e13 : Nat) : Int)] 105), ((φ10 0), .cells #[.slice a5 (List.length (l.take 200)) c5, .int .i64 ((at13 : Nat) : Int), .int .i64 ((e13 : Nat) : Int)] 74)] [] 1 [] 0 (fun φ40 => [(49, .pointer (some ⟨(φ10 0), 0, none⟩))]) (fun φ40 => [(b9, .cells #[.slice a39 k39 c39, .int .i64 ((nuE ((l.take 200).drop at13) e13 : Nat) : Int)] 105), ((φ10 0), .cells #[.slice a5 (List.length (l.take 200)) c5, .int .i64 ((at13 : Nat) : Int), .int .i64 ((e13 : Nat) : Int)] 74)]) (fun φ40 => []) s trivial (fun φ40 => by kernel_rfl) ?_
          intro φ40 w40 s
          refine callB_rule (b := ((φ10 0), .cells #[.slice a5 (List.length (l.take 200)) c5, .int .i64 ((at13 : Nat) : Int), .int .i64 ((e13 : Nat) : Int)] 74)) (H := [(b9, .cells #[.slice a39 k39 c39, .int .i64 ((nuE ((l.take 200).drop at13) e13 : Nat) : Int)] 105), ((φ10 0), .cells #[.slice a5 (List.length (l.take 200)) c5, .int .i64 ((at13 : Nat) : Int), .int .i64 ((e13 : Nat) : Int)] 74)]) (F := []) (Hr := [(b9, .cells #[.slice a39 k39 c39, .int .i64 ((nuE ((l.take 200).drop at13) e13 : Nat) : Int)] 105)]) (some 50) 1 s (by kernel_rfl) (by kernel_rfl) (refNum_c (x := (φ10 0)) (at0 := at13) (e := e13) h5_0 (by simp only [List.length_drop, List.length_take]; omega) hi13_1) (by kernel_rfl) ?_
          rintro v41 I41 w41 b41 le41 - h41 s
          replace hl := BSl.mono le41 hl
          replace hA := ASl.mono le41 hA
          replace h5_0 := BSl.mono le41 h5_0
          replace h8_0 := BSl.mono le41 h8_0
          replace hb9 := BSl.mono le41 hb9
          replace hle12 := leMono le41 hle12
          replace hi13_2 := BSl.mono le41 hi13_2
          replace h39_0 := BSl.mono le41 h39_0
          replace hk18 := le41 _ _ hk18
          obtain ⟨rfl, rfl⟩ := h41
          refine ops_rule (C := []) [((φ10 0), .cells #[.slice a5 (List.length (l.take 200)) c5, .int .i64 ((at13 + (nuD ((l.take 200).drop at13) e13) : Nat) : Int), .int .i64 ((nuE ((l.take 200).drop at13) e13 : Nat) : Int)] 74), (b9, .cells #[.slice a39 k39 c39, .int .i64 ((nuE ((l.take 200).drop at13) e13 : Nat) : Int)] 105)] [] 2 [] 0 (fun φ42 => [(9, .bool (((nuV ((l.take 200).drop at13) e13 : Nat) : Int) == ((nuV ((l.take 200).drop at13) e13 : Nat) : Int))), (51, .bool (((nuV ((l.take 200).drop at13) e13 : Nat) : Int) == ((nuV ((l.take 200).drop at13) e13 : Nat) : Int)))]) (fun φ42 => [((φ10 0), .cells #[.slice a5 (List.length (l.take 200)) c5, .int .i64 ((at13 + (nuD ((l.take 200).drop at13) e13) : Nat) : Int), .int .i64 ((nuE ((l.take 200).drop at13) e13 : Nat) : Int)] 74), (b9, .cells #[.slice a39 k39 c39, .int .i64 ((nuE ((l.take 200).drop at13) e13 : Nat) : Int)] 105)]) (fun φ42 => []) s trivial (fun φ42 => by kernel_rfl) ?_
          intro φ42 w42 s
          rw [(nat_eql (a := (nuV ((l.take 200).drop at13) e13)) (b := (nuV ((l.take 200).drop at13) e13))).trans (decide_eq_true rfl)]
          refine ops_done (by kernel_rfl) ?_
          refine wp_seq ?_
          have hz43 := St.none0 s (g := b9) (o := .cells #[.slice a39 k39 c39, .int .i64 ((nuE ((l.take 200).drop at13) e13 : Nat) : Int)] 105) (by simp)
          have hT43 := IM.Le.refl I41
          have hlK43 := hl
          have hAK43 := hA
          have h5_0K43 := h5_0
          have h8_0K43 := h8_0
          have hb9K43 := hb9
          have hle12K43 := hle12
          have hi13_2K43 := hi13_2
          have h39_0K43 := h39_0
          have hk18K43 := hk18
          obtain ⟨I44, le44, hk44, s⟩ := s.freezeAt 1 b9 (.cells #[.slice a39 k39 c39, .int .i64 ((nuE ((l.take 200).drop at13) e13 : Nat) : Int)] 105) [((φ10 0), .cells #[.slice a5 (List.length (l.take 200)) c5, .int .i64 ((at13 + (nuD ((l.take 200).drop at13) e13) : Nat) : Int), .int .i64 ((nuE ((l.take 200).drop at13) e13 : Nat) : Int)] 74)] (by kernel_rfl) (by kernel_rfl)
          replace hl := BSl.mono le44 hl
          replace hA := ASl.mono le44 hA
          replace h5_0 := BSl.mono le44 h5_0
          replace h8_0 := BSl.mono le44 h8_0
          replace hb9 := BSl.mono le44 hb9
          replace hle12 := leMono le44 hle12
          replace hi13_2 := BSl.mono le44 hi13_2
          replace h39_0 := BSl.mono le44 h39_0
          replace hT43 := leMono le44 hT43
          replace hk18 := le44 _ _ hk18
          refine draw_rule (C := []) ⟨(fun φ45 xs45 => [.look 0 [] [], .look 0 [] [], .look 0 [] [], .look 0 [] [], .call 55 #[.pointer (some ⟨b9, 0, none⟩)], .look 0 [] [], .look 0 [] [], .look 0 [] [], .look 0 [.o 0] [(φ10 0)], .sub 0 [] [] (.bool (((nuE ((l.take 200).drop at13) e13 : Nat) : Int) != ((nuE ((l.take 200).drop at13) e13 : Nat) : Int))), .look 0 [] [], .look 0 [] [], .look 0 [] [], .call 56 #[.pointer (some ⟨b9, 0, none⟩)], .look 0 [] [], .look 0 [] [], .look 0 [] [], .look 0 [] [], .look 0 [] [], .look 0 [.o 0] [(φ10 0)], .sub 0 [] [] (.int .i64 (IntKind.wrap .i64 ((((List.length (l.take 200)) : Nat) : Int) - ((at13 + (nuD ((l.take 200).drop at13) e13) : Nat) : Int)))), .sub 0 [] [] (.bool (((k39 : Nat) : Int) != (((List.length (l.take 200)) - (at13 + (nuD ((l.take 200).drop at13) e13)) : Nat) : Int))), .look 0 [] []]), (fun φ45 xs45 => [.bool true, .bool false, .bool false, .pointer (some ⟨b9, 0, none⟩), .int .i64 ((nuE ((l.take 200).drop at13) e13 : Nat) : Int), .pointer (some ⟨(φ10 0), 0, none⟩), .pointer (some ⟨(φ10 0), 0, none⟩), .pointer (some ⟨(φ10 0), 2, none⟩), .int .i64 ((nuE ((l.take 200).drop at13) e13 : Nat) : Int), .bool false, .bool false, .bool false, .pointer (some ⟨b9, 0, none⟩), .int .i64 ((k39 : Nat) : Int), .slice a5 (List.length (l.take 200)) c5, .int .i64 (((List.length (l.take 200)) : Nat) : Int), .pointer (some ⟨(φ10 0), 0, none⟩), .pointer (some ⟨(φ10 0), 0, none⟩), .pointer (some ⟨(φ10 0), 1, none⟩), .int .i64 ((at13 + (nuD ((l.take 200).drop at13) e13) : Nat) : Int), .int .i64 (((List.length (l.take 200)) - (at13 + (nuD ((l.take 200).drop at13) e13)) : Nat) : Int), .bool (decide (k39 ≠ ((List.length (l.take 200)) - (at13 + (nuD ((l.take 200).drop at13) e13))))), .bool (decide (k39 ≠ ((List.length (l.take 200)) - (at13 + (nuD ((l.take 200).drop at13) e13)))))]), (fun φ45 xs45 => [[((φ10 0), .cells #[.slice a5 (List.length (l.take 200)) c5, .int .i64 ((at13 + (nuD ((l.take 200).drop at13) e13) : Nat) : Int), .int .i64 ((nuE ((l.take 200).drop at13) e13 : Nat) : Int)] 74)]]), (fun φ45 xs45 => [[default, default, default, default, default, default, default, default, default, default, default, default, default, default, default, default, default, default, default, default, default, default, default]]), [], [1, 1, 1, 1, 3, 1, 1, 1, 1, 5, 1, 1, 1, 3, 1, 1, 1, 1, 1, 1, 5, 5, 1]⟩ (fun j => ([MP.any, MP.any, MP.any, MP.any, MP.any, MP.any, MP.any, MP.any, MP.any, MP.any, MP.any, MP.any, MP.any, MP.any, MP.any, MP.any, MP.any, MP.any, MP.any, MP.any, MP.any, MP.any, MP.any] : List MP).getD j MP.any) [4, 13] [9, 20, 21] [] (fun φ45 xs45 => []) (fun φ45 xs45 => [(77, .bool true), (78, .bool false), (79, .bool false), (80, .pointer (some ⟨b9, 0, none⟩)), (81, .int .i64 ((nuE ((l.take 200).drop at13) e13 : Nat) : Int)), (82, .pointer (some ⟨(φ10 0), 0, none⟩)), (83, .pointer (some ⟨(φ10 0), 0, none⟩)), (84, .pointer (some ⟨(φ10 0), 2, none⟩)), (85, .int .i64 ((nuE ((l.take 200).drop at13) e13 : Nat) : Int)), (86, .bool false), (87, .bool false), (88, .bool false), (89, .pointer (some ⟨b9, 0, none⟩)), (90, .int .i64 ((k39 : Nat) : Int)), (91, .slice a5 (List.length (l.take 200)) c5), (92, .int .i64 (((List.length (l.take 200)) : Nat) : Int)), (93, .pointer (some ⟨(φ10 0), 0, none⟩)), (94, .pointer (some ⟨(φ10 0), 0, none⟩)), (95, .pointer (some ⟨(φ10 0), 1, none⟩)), (96, .int .i64 ((at13 + (nuD ((l.take 200).drop at13) e13) : Nat) : Int)), (97, .int .i64 (((List.length (l.take 200)) - (at13 + (nuD ((l.take 200).drop at13) e13)) : Nat) : Int)), (98, .bool (decide (k39 ≠ ((List.length (l.take 200)) - (at13 + (nuD ((l.take 200).drop at13) e13)))))), (99, .bool (decide (k39 ≠ ((List.length (l.take 200)) - (at13 + (nuD ((l.take 200).drop at13) e13))))))]) (fun φ45 xs45 => [((φ10 0), .cells #[.slice a5 (List.length (l.take 200)) c5, .int .i64 ((at13 + (nuD ((l.take 200).drop at13) e13) : Nat) : Int), .int .i64 ((nuE ((l.take 200).drop at13) e13 : Nat) : Int)] 74)]) s trivial (by kernel_rfl) (by kernel_rfl) (fun _ _ => by kernel_rfl) (fun _ _ => by kernel_rfl) ⟨fun _ _ => by kernel_rfl, fun _ _ => by kernel_rfl, fun _ _ => by kernel_rfl, fun _ _ => by kernel_rfl⟩ (fun _ _ _ => by kernel_rfl) (fun _ _ => by kernel_rfl) (fun _ _ => by kernel_rfl) (fun _ _ => by kernel_rfl) (fun _ _ => by kernel_rfl) (fun _ _ => by kernel_rfl) ⟨kcast (A := ∀ (φ45 : Nat → Nat) (xs45 : Xs), (.bool (((nuE ((l.take 200).drop at13) e13 : Nat) : Int) != ((nuE ((l.take 200).drop at13) e13 : Nat) : Int)) : Value) = .bool false) (by kernel_rfl) (fun φ45 xs45 => congrArg Value.bool (((nat_neq (a := (nuE ((l.take 200).drop at13) e13)) (b := (nuE ((l.take 200).drop at13) e13))).trans (decide_eq_false (fun q => q rfl))))), ⟨kcast (A := ∀ (φ45 : Nat → Nat) (xs45 : Xs), (.int .i64 (IntKind.wrap .i64 ((((List.length (l.take 200)) : Nat) : Int) - ((at13 + (nuD ((l.take 200).drop at13) e13) : Nat) : Int))) : Value) = .int .i64 (((List.length (l.take 200)) - (at13 + (nuD ((l.take 200).drop at13) e13)) : Nat) : Int)) (by kernel_rfl) (fun φ45 xs45 => congrArg (Value.int .i64) ((nat_subI (a := (List.length (l.take 200))) (b := (at13 + (nuD ((l.take 200).drop at13) e13))) (by have hb1 := hi13_1; have hD1 := byD_le ((l.take 200).drop at13) e13; have hD2 := nuD_le ((l.take 200).drop at13) e13; have hD3 := teD_le ((l.take 200).drop at13) e13 (L.getD i13 (0, 0)).2; have hw9 := wrapN_lt (L.getD i13 (0, 0)).2; (simp only [List.length_drop, List.length_take] at hb1 hD1 hD2 hD3); have hbd := asl_bd hA (of_decide_eq_true hc15); have hq0 := of_decide_eq_true hc15; have hq1 := of_decide_eq_false hc20; have hq2 := of_decide_eq_false hc25; have hq3 := of_decide_eq_true hc37; (try simp only [List.length_drop, List.length_take, List.length_append, List.length_cons, List.length_nil]); omega) (by have hb1 := hi13_1; have hD1 := byD_le ((l.take 200).drop at13) e13; have hD2 := nuD_le ((l.take 200).drop at13) e13; have hD3 := teD_le ((l.take 200).drop at13) e13 (L.getD i13 (0, 0)).2; have hw9 := wrapN_lt (L.getD i13 (0, 0)).2; (simp only [List.length_drop, List.length_take] at hb1 hD1 hD2 hD3); have hbd := asl_bd hA (of_decide_eq_true hc15); have hq0 := of_decide_eq_true hc15; have hq1 := of_decide_eq_false hc20; have hq2 := of_decide_eq_false hc25; have hq3 := of_decide_eq_true hc37; (try simp only [List.length_drop, List.length_take, List.length_append, List.length_cons, List.length_nil]); omega)))), ⟨kcast (A := ∀ (φ45 : Nat → Nat) (xs45 : Xs), (.bool (((k39 : Nat) : Int) != (((List.length (l.take 200)) - (at13 + (nuD ((l.take 200).drop at13) e13)) : Nat) : Int)) : Value) = .bool (decide (k39 ≠ ((List.length (l.take 200)) - (at13 + (nuD ((l.take 200).drop at13) e13)))))) (by kernel_rfl) (fun φ45 xs45 => congrArg Value.bool ((nat_neq (a := k39) (b := ((List.length (l.take 200)) - (at13 + (nuD ((l.take 200).drop at13) e13))))))), trivial⟩⟩⟩ trivial (by kernel_rfl) ⟨?c45_4, ?c45_13, trivial⟩ ?k45
          case c45_4 =>
            refine kcast (A := ∀ (φ45 : Nat → Nat) (xs45 : Xs) (J4_45 : IM), I44.Le J4_45 → Fun Try.prog 55 #[.pointer (some ⟨b9, 0, none⟩)] J4_45 (fun v J' => ∃ x : UX, v = .int .i64 ((nuE ((l.take 200).drop at13) e13 : Nat) : Int) ∧ (True))) (by kernel_rfl) ?_
            intro φ45 xs45 J4_45 leJ
            have hk44 := leJ _ _ hk44
            exact Fun.mono (errF_c hk44) (fun v J' _ h => ⟨UX.d, h, trivial⟩)
          case c45_13 =>
            refine kcast (A := ∀ (φ45 : Nat → Nat) (xs45 : Xs) (J13_45 : IM), I44.Le J13_45 → (True) → Fun Try.prog 56 #[.pointer (some ⟨b9, 0, none⟩)] J13_45 (fun v J' => ∃ x : UX, v = .int .i64 ((k39 : Nat) : Int) ∧ (True))) (by kernel_rfl) ?_
            intro φ45 xs45 J13_45 leJ
            rintro _
            have hk44 := leJ _ _ hk44
            exact Fun.mono (leftF_c hk44) (fun v J' _ h => ⟨UX.d, h, trivial⟩)
          case k45 =>
            rintro φ45 xs45 I45 w45 le45 s _ _
            replace hl := BSl.mono le45 hl
            replace hA := ASl.mono le45 hA
            replace h5_0 := BSl.mono le45 h5_0
            replace h8_0 := BSl.mono le45 h8_0
            replace hb9 := BSl.mono le45 hb9
            replace hle12 := leMono le45 hle12
            replace hi13_2 := BSl.mono le45 hi13_2
            replace h39_0 := BSl.mono le45 h39_0
            replace hT43 := leMono le45 hT43
            replace hk18 := le45 _ _ hk18
            replace hk44 := le45 _ _ hk44
            replace s := St.thaw s hk44 hz43.2.1 hz43.2.2
            have leT43 := IM.le_del (g := b9) hT43 hz43.1
            generalize IM.del I45 b9 = J43 at s leT43
            replace hl := BSl.mono leT43 hlK43
            replace hA := ASl.mono leT43 hAK43
            replace h5_0 := BSl.mono leT43 h5_0K43
            replace h8_0 := BSl.mono leT43 h8_0K43
            replace hb9 := BSl.mono leT43 hb9K43
            replace hle12 := leMono leT43 hle12K43
            replace hi13_2 := BSl.mono leT43 hi13_2K43
            replace h39_0 := BSl.mono leT43 h39_0K43
            replace hk18 := leT43 _ _ hk18K43
            rcases Bool.eq_false_or_eq_true (decide (k39 ≠ ((List.length (l.take 200)) - (at13 + (nuD ((l.take 200).drop at13) e13))))) with hc46 | hc46
            ·
              exact absurd (of_decide_eq_true hc46) (by have hk9 := (h39_0).cap.1; have hb1 := hi13_1; have hD1 := byD_le ((l.take 200).drop at13) e13; have hD2 := nuD_le ((l.take 200).drop at13) e13; have hD3 := teD_le ((l.take 200).drop at13) e13 (L.getD i13 (0, 0)).2; have hw9 := wrapN_lt (L.getD i13 (0, 0)).2; (simp only [List.length_drop, List.length_take] at hb1 hD1 hD2 hD3); have hbd := asl_bd hA (of_decide_eq_true hc15); simp only [List.length_drop, List.length_take, List.length_append, List.length_cons, List.length_nil] at hk9 ⊢; omega)
            ·
              rw [hc46]
              refine cond_false_rule (b := false) (by kernel_rfl) rfl ?_
              refine wp_skip ?_
              refine region_rule ?_
              refine ops_rule (C := []) [((φ10 0), .cells #[.slice a5 (List.length (l.take 200)) c5, .int .i64 ((at13 + (nuD ((l.take 200).drop at13) e13) : Nat) : Int), .int .i64 ((nuE ((l.take 200).drop at13) e13 : Nat) : Int)] 74), (b9, .cells #[.slice a39 k39 c39, .int .i64 ((nuE ((l.take 200).drop at13) e13 : Nat) : Int)] 105)] [] 2 [] 0 (fun φ47 => [(23, .int .i64 (IntKind.wrap .i64 (((i13 : Nat) : Int) + ((1 : Nat) : Int)))), (100, .int .i64 (IntKind.wrap .i64 (((i13 : Nat) : Int) + ((1 : Nat) : Int))))]) (fun φ47 => [((φ10 0), .cells #[.slice a5 (List.length (l.take 200)) c5, .int .i64 ((at13 + (nuD ((l.take 200).drop at13) e13) : Nat) : Int), .int .i64 ((nuE ((l.take 200).drop at13) e13 : Nat) : Int)] 74), (b9, .cells #[.slice a39 k39 c39, .int .i64 ((nuE ((l.take 200).drop at13) e13 : Nat) : Int)] 105)]) (fun φ47 => []) s trivial (fun φ47 => by kernel_rfl) ?_
              intro φ47 w47 s
              rw [nat_addI (a := i13) (b := 1) (by have hb1 := hi13_1; have hD1 := byD_le ((l.take 200).drop at13) e13; have hD2 := nuD_le ((l.take 200).drop at13) e13; have hD3 := teD_le ((l.take 200).drop at13) e13 (L.getD i13 (0, 0)).2; have hw9 := wrapN_lt (L.getD i13 (0, 0)).2; (simp only [List.length_drop, List.length_take] at hb1 hD1 hD2 hD3); have hbd := asl_bd hA (of_decide_eq_true hc15); have hq0 := of_decide_eq_true hc15; have hq1 := of_decide_eq_false hc20; have hq2 := of_decide_eq_false hc25; have hq3 := of_decide_eq_true hc37; have hq4 := of_decide_eq_false hc46; omega)]
              refine ops_done (by kernel_rfl) ?_
              exact ⟨⟨m13 - 1, (i13 + 1, at13 + (nuD ((l.take 200).drop at13) e13), nuE ((l.take 200).drop at13) e13, a39, k39, c39), _, _, _, by have hq0 := of_decide_eq_true hc15; have hq1 := of_decide_eq_false hc20; have hq2 := of_decide_eq_false hc25; have hq3 := of_decide_eq_true hc37; have hq4 := of_decide_eq_false hc46; have := hi13_0; omega, rfl, s, (List.Sublist.cons₂ _ (List.Sublist.cons₂ _ List.Sublist.slnil)), by kernel_rfl, hle12, by have hq0 := of_decide_eq_true hc15; have hq1 := of_decide_eq_false hc20; have hq2 := of_decide_eq_false hc25; have hq3 := of_decide_eq_true hc37; have hq4 := of_decide_eq_false hc46; have := hi13_0; show i13 + 1 + (m13 - 1) = L.length; omega, by have hb1 := hi13_1; have hD1 := byD_le ((l.take 200).drop at13) e13; have hD2 := nuD_le ((l.take 200).drop at13) e13; have hD3 := teD_le ((l.take 200).drop at13) e13 (L.getD i13 (0, 0)).2; have hw9 := wrapN_lt (L.getD i13 (0, 0)).2; (simp only [List.length_drop, List.length_take] at hb1 hD1 hD2 hD3); have hbd := asl_bd hA (of_decide_eq_true hc15); show _ ≤ _; (try simp only [List.length_drop, List.length_take, List.length_append, List.length_cons, List.length_nil]); omega, bsl_eq h39_0 (by rw [List.drop_drop])⟩⟩
        ·
          rw [hc37]
          refine cond_false_rule (b := false) (by kernel_rfl) rfl ?_
          refine wp_seq ?_
          refine region_rule ?_
          refine ops_rule (C := []) [((φ10 0), .cells #[.slice a5 (List.length (l.take 200)) c5, .int .i64 ((at13 : Nat) : Int), .int .i64 ((e13 : Nat) : Int)] 74), (b9, .cells #[.slice a13 k13 c13, .int .i64 ((e13 : Nat) : Int)] 105)] [] 2 [] 0 (fun φ48 => [(52, .bool (((((L.getD i13 (0, 0)).1) % 5 : Nat) : Int) == ((2 : Nat) : Int))), (53, .bool (((((L.getD i13 (0, 0)).1) % 5 : Nat) : Int) == ((2 : Nat) : Int)))]) (fun φ48 => [((φ10 0), .cells #[.slice a5 (List.length (l.take 200)) c5, .int .i64 ((at13 : Nat) : Int), .int .i64 ((e13 : Nat) : Int)] 74), (b9, .cells #[.slice a13 k13 c13, .int .i64 ((e13 : Nat) : Int)] 105)]) (fun φ48 => []) s trivial (fun φ48 => by kernel_rfl) ?_
          intro φ48 w48 s
          rw [nat_eql (a := (((L.getD i13 (0, 0)).1) % 5)) (b := 2)]
          refine ops_done (by kernel_rfl) ?_
          rcases Bool.eq_false_or_eq_true (decide ((((L.getD i13 (0, 0)).1) % 5) = 2)) with hc49 | hc49
          ·
            rw [hc49]
            refine cond_true_rule (b := true) (by kernel_rfl) rfl ?_
            have hH50 := IM.Le.refl I18
            refine held_begin (n := 10) (SubS I18) (by kernel_rfl) (by kernel_rfl) ?_
            replace s := St.drew s
            refine held_take (fuel := 9) [] [] 0 (.pointer (some ⟨b9, 0, none⟩)) (some 54) [] (I := I18) trivial (by kernel_rfl) (by kernel_rfl) (by kernel_rfl) (by kernel_rfl) (by kernel_rfl) (fun _ d' _ _ _ h => by cases d' <;> exact h) (by kernel_rfl) (by kernel_rfl) s.sub ?_
            refine held_take (fuel := 8) [] [] 1 (.pointer (some ⟨(φ17 0), 1, none⟩)) (some 55) [] (I := I18) trivial (by kernel_rfl) (by kernel_rfl) (by kernel_rfl) (by kernel_rfl) (by kernel_rfl) (fun _ d' _ _ _ h => by cases d' <;> exact h) (by kernel_rfl) (by kernel_rfl) s.sub ?_
            refine held_take (fuel := 7) [((φ17 0), .cells #[.int .u8 (((L.getD i13 (0, 0)).1 : Nat) : Int), .int .i64 ((L.getD i13 (0, 0)).2)] 76)] [.c 0] 2 (.int .i64 ((L.getD i13 (0, 0)).2)) (some 56) [(φ17 0)] (I := I18) ⟨hk18, trivial⟩ (by kernel_rfl) (by kernel_rfl) (by kernel_rfl) (by kernel_rfl) (by kernel_rfl) (fun _ d' _ _ _ h => by cases d' <;> exact h) (by kernel_rfl) (by kernel_rfl) s.sub ?_
            refine held_take (fuel := 6) [] [] 4 (.pointer (some ⟨(φ10 0), 0, none⟩)) (some 58) [] (I := I18) trivial (by kernel_rfl) (by kernel_rfl) (by kernel_rfl) (by kernel_rfl) (by kernel_rfl) (fun _ d' _ _ _ h => by cases d' <;> exact h) (by kernel_rfl) (by kernel_rfl) s.sub ?_
            refine held_take (fuel := 5) [] [] 5 (.pointer (some ⟨(φ17 0), 1, none⟩)) (some 59) [] (I := I18) trivial (by kernel_rfl) (by kernel_rfl) (by kernel_rfl) (by kernel_rfl) (by kernel_rfl) (fun _ d' _ _ _ h => by cases d' <;> exact h) (by kernel_rfl) (by kernel_rfl) s.sub ?_
            refine held_take (fuel := 4) [((φ17 0), .cells #[.int .u8 (((L.getD i13 (0, 0)).1 : Nat) : Int), .int .i64 ((L.getD i13 (0, 0)).2)] 76)] [.c 0] 6 (.int .i64 ((L.getD i13 (0, 0)).2)) (some 60) [(φ17 0)] (I := I18) ⟨hk18, trivial⟩ (by kernel_rfl) (by kernel_rfl) (by kernel_rfl) (by kernel_rfl) (by kernel_rfl) (fun _ d' _ _ _ h => by cases d' <;> exact h) (by kernel_rfl) (by kernel_rfl) s.sub ?_
            refine held_one (fuel := 3) 3 (by kernel_rfl) (by kernel_rfl) ?_
            refine callB_rule (b := (b9, .cells #[.slice a13 k13 c13, .int .i64 ((e13 : Nat) : Int)] 105)) (H := [((φ10 0), .cells #[.slice a5 (List.length (l.take 200)) c5, .int .i64 ((at13 : Nat) : Int), .int .i64 ((e13 : Nat) : Int)] 74), (b9, .cells #[.slice a13 k13 c13, .int .i64 ((e13 : Nat) : Int)] 105)]) (F := []) (Hr := [((φ10 0), .cells #[.slice a5 (List.length (l.take 200)) c5, .int .i64 ((at13 : Nat) : Int), .int .i64 ((e13 : Nat) : Int)] 74)]) (some 57) 1 s (by kernel_rfl) (by kernel_rfl) (textA_c (r := b9) (e := e13) (z := (L.getD i13 (0, 0)).2) hi13_2 (by simp only [List.length_drop, List.length_take]; omega) ((asl_bd hA (of_decide_eq_true hc15)).2)) (by kernel_rfl) ?_
            rintro v51 I51 w51 b51 le51 - h51 s
            replace hl := BSl.mono le51 hl
            replace hA := ASl.mono le51 hA
            replace h5_0 := BSl.mono le51 h5_0
            replace h8_0 := BSl.mono le51 h8_0
            replace hb9 := BSl.mono le51 hb9
            replace hle12 := leMono le51 hle12
            replace hi13_2 := BSl.mono le51 hi13_2
            replace hH50 := leMono le51 hH50
            replace hk18 := le51 _ _ hk18
            obtain ⟨a51, k51, c51, rfl, rfl, h51_0⟩ := h51
            refine ops_done (by kernel_rfl) ?_
            refine held_next s hH50 ?_
            refine held_one (fuel := 2) 7 (by kernel_rfl) (by kernel_rfl) ?_
            refine callB_rule (b := ((φ10 0), .cells #[.slice a5 (List.length (l.take 200)) c5, .int .i64 ((at13 : Nat) : Int), .int .i64 ((e13 : Nat) : Int)] 74)) (H := [(b9, .cells #[.slice a51 k51 c51, .int .i64 ((teE ((l.take 200).drop at13) e13 ((L.getD i13 (0, 0)).2) : Nat) : Int)] 105), ((φ10 0), .cells #[.slice a5 (List.length (l.take 200)) c5, .int .i64 ((at13 : Nat) : Int), .int .i64 ((e13 : Nat) : Int)] 74)]) (F := []) (Hr := [(b9, .cells #[.slice a51 k51 c51, .int .i64 ((teE ((l.take 200).drop at13) e13 ((L.getD i13 (0, 0)).2) : Nat) : Int)] 105)]) (some 61) 1 s (by kernel_rfl) (by kernel_rfl) (refTextA_c (x := (φ10 0)) (at0 := at13) (e := e13) (z := (L.getD i13 (0, 0)).2) h5_0 (by simp only [List.length_drop, List.length_take]; omega) hi13_1 ((asl_bd hA (of_decide_eq_true hc15)).2)) (by kernel_rfl) ?_
            rintro v52 I52 w52 b52 le52 - h52 s
            replace hl := BSl.mono le52 hl
            replace hA := ASl.mono le52 hA
            replace h5_0 := BSl.mono le52 h5_0
            replace h8_0 := BSl.mono le52 h8_0
            replace hb9 := BSl.mono le52 hb9
            replace hle12 := leMono le52 hle12
            replace hi13_2 := BSl.mono le52 hi13_2
            replace hH50 := leMono le52 hH50
            replace h51_0 := BSl.mono le52 h51_0
            replace hk18 := le52 _ _ hk18
            obtain ⟨rfl, rfl⟩ := h52
            refine ops_done (by kernel_rfl) ?_
            refine held_next s hH50 ?_
            refine held_one (fuel := 1) 8 (by kernel_rfl) (by kernel_rfl) ?_
            refine ops_rule (C := []) [((φ10 0), .cells #[.slice a5 (List.length (l.take 200)) c5, .int .i64 ((at13 + (teD ((l.take 200).drop at13) e13 ((L.getD i13 (0, 0)).2)) : Nat) : Int), .int .i64 ((teE ((l.take 200).drop at13) e13 ((L.getD i13 (0, 0)).2) : Nat) : Int)] 74), (b9, .cells #[.slice a51 k51 c51, .int .i64 ((teE ((l.take 200).drop at13) e13 ((L.getD i13 (0, 0)).2) : Nat) : Int)] 105)] [] 1 [] 0 (fun φ53 => [(62, .bool ((⟨(teV ((l.take 200).drop at13) e13 ((L.getD i13 (0, 0)).2)).toArray⟩ : ByteArray).toList == (⟨(teV ((l.take 200).drop at13) e13 ((L.getD i13 (0, 0)).2)).toArray⟩ : ByteArray).toList))]) (fun φ53 => [((φ10 0), .cells #[.slice a5 (List.length (l.take 200)) c5, .int .i64 ((at13 + (teD ((l.take 200).drop at13) e13 ((L.getD i13 (0, 0)).2)) : Nat) : Int), .int .i64 ((teE ((l.take 200).drop at13) e13 ((L.getD i13 (0, 0)).2) : Nat) : Int)] 74), (b9, .cells #[.slice a51 k51 c51, .int .i64 ((teE ((l.take 200).drop at13) e13 ((L.getD i13 (0, 0)).2) : Nat) : Int)] 105)]) (fun φ53 => []) s trivial (fun φ53 => by kernel_rfl) ?_
            intro φ53 w53 s
            rw [beq_self_eq_true _]
            refine ops_done (by kernel_rfl) ?_
            refine held_next s hH50 ?_
            refine held_one (fuel := 0) 9 (by kernel_rfl) (by kernel_rfl) ?_
            refine ops_rule (C := []) [((φ10 0), .cells #[.slice a5 (List.length (l.take 200)) c5, .int .i64 ((at13 + (teD ((l.take 200).drop at13) e13 ((L.getD i13 (0, 0)).2)) : Nat) : Int), .int .i64 ((teE ((l.take 200).drop at13) e13 ((L.getD i13 (0, 0)).2) : Nat) : Int)] 74), (b9, .cells #[.slice a51 k51 c51, .int .i64 ((teE ((l.take 200).drop at13) e13 ((L.getD i13 (0, 0)).2) : Nat) : Int)] 105)] [] 1 [] 0 (fun φ54 => [(9, .bool true)]) (fun φ54 => [((φ10 0), .cells #[.slice a5 (List.length (l.take 200)) c5, .int .i64 ((at13 + (teD ((l.take 200).drop at13) e13 ((L.getD i13 (0, 0)).2)) : Nat) : Int), .int .i64 ((teE ((l.take 200).drop at13) e13 ((L.getD i13 (0, 0)).2) : Nat) : Int)] 74), (b9, .cells #[.slice a51 k51 c51, .int .i64 ((teE ((l.take 200).drop at13) e13 ((L.getD i13 (0, 0)).2) : Nat) : Int)] 105)]) (fun φ54 => []) s trivial (fun φ54 => by kernel_rfl) ?_
            intro φ54 w54 s
            refine ops_done (by kernel_rfl) ?_
            refine held_next s hH50 ?_
            refine Go.wpAnyH_done (by kernel_rfl) ?_ _
            refine wp_seq ?_
            have hz55 := St.none0 s (g := b9) (o := .cells #[.slice a51 k51 c51, .int .i64 ((teE ((l.take 200).drop at13) e13 ((L.getD i13 (0, 0)).2) : Nat) : Int)] 105) (by simp)
            have hT55 := IM.Le.refl I52
            have hlK55 := hl
            have hAK55 := hA
            have h5_0K55 := h5_0
            have h8_0K55 := h8_0
            have hb9K55 := hb9
            have hle12K55 := hle12
            have hi13_2K55 := hi13_2
            have hH50K55 := hH50
            have h51_0K55 := h51_0
            have hk18K55 := hk18
            obtain ⟨I56, le56, hk56, s⟩ := s.freezeAt 1 b9 (.cells #[.slice a51 k51 c51, .int .i64 ((teE ((l.take 200).drop at13) e13 ((L.getD i13 (0, 0)).2) : Nat) : Int)] 105) [((φ10 0), .cells #[.slice a5 (List.length (l.take 200)) c5, .int .i64 ((at13 + (teD ((l.take 200).drop at13) e13 ((L.getD i13 (0, 0)).2)) : Nat) : Int), .int .i64 ((teE ((l.take 200).drop at13) e13 ((L.getD i13 (0, 0)).2) : Nat) : Int)] 74)] (by kernel_rfl) (by kernel_rfl)
            replace hl := BSl.mono le56 hl
            replace hA := ASl.mono le56 hA
            replace h5_0 := BSl.mono le56 h5_0
            replace h8_0 := BSl.mono le56 h8_0
            replace hb9 := BSl.mono le56 hb9
            replace hle12 := leMono le56 hle12
            replace hi13_2 := BSl.mono le56 hi13_2
            replace hH50 := leMono le56 hH50
            replace h51_0 := BSl.mono le56 h51_0
            replace hT55 := leMono le56 hT55
            replace hk18 := le56 _ _ hk18
            refine draw_rule (C := []) ⟨(fun φ57 xs57 => [.look 0 [] [], .look 0 [] [], .look 0 [] [], .look 0 [] [], .call 55 #[.pointer (some ⟨b9, 0, none⟩)], .look 0 [] [], .look 0 [] [], .look 0 [] [], .look 0 [.o 0] [(φ10 0)], .sub 0 [] [] (.bool (((teE ((l.take 200).drop at13) e13 ((L.getD i13 (0, 0)).2) : Nat) : Int) != ((teE ((l.take 200).drop at13) e13 ((L.getD i13 (0, 0)).2) : Nat) : Int))), .look 0 [] [], .look 0 [] [], .look 0 [] [], .call 56 #[.pointer (some ⟨b9, 0, none⟩)], .look 0 [] [], .look 0 [] [], .look 0 [] [], .look 0 [] [], .look 0 [] [], .look 0 [.o 0] [(φ10 0)], .sub 0 [] [] (.int .i64 (IntKind.wrap .i64 ((((List.length (l.take 200)) : Nat) : Int) - ((at13 + (teD ((l.take 200).drop at13) e13 ((L.getD i13 (0, 0)).2)) : Nat) : Int)))), .sub 0 [] [] (.bool (((k51 : Nat) : Int) != (((List.length (l.take 200)) - (at13 + (teD ((l.take 200).drop at13) e13 ((L.getD i13 (0, 0)).2))) : Nat) : Int))), .look 0 [] []]), (fun φ57 xs57 => [.bool true, .bool false, .bool false, .pointer (some ⟨b9, 0, none⟩), .int .i64 ((teE ((l.take 200).drop at13) e13 ((L.getD i13 (0, 0)).2) : Nat) : Int), .pointer (some ⟨(φ10 0), 0, none⟩), .pointer (some ⟨(φ10 0), 0, none⟩), .pointer (some ⟨(φ10 0), 2, none⟩), .int .i64 ((teE ((l.take 200).drop at13) e13 ((L.getD i13 (0, 0)).2) : Nat) : Int), .bool false, .bool false, .bool false, .pointer (some ⟨b9, 0, none⟩), .int .i64 ((k51 : Nat) : Int), .slice a5 (List.length (l.take 200)) c5, .int .i64 (((List.length (l.take 200)) : Nat) : Int), .pointer (some ⟨(φ10 0), 0, none⟩), .pointer (some ⟨(φ10 0), 0, none⟩), .pointer (some ⟨(φ10 0), 1, none⟩), .int .i64 ((at13 + (teD ((l.take 200).drop at13) e13 ((L.getD i13 (0, 0)).2)) : Nat) : Int), .int .i64 (((List.length (l.take 200)) - (at13 + (teD ((l.take 200).drop at13) e13 ((L.getD i13 (0, 0)).2))) : Nat) : Int), .bool (decide (k51 ≠ ((List.length (l.take 200)) - (at13 + (teD ((l.take 200).drop at13) e13 ((L.getD i13 (0, 0)).2)))))), .bool (decide (k51 ≠ ((List.length (l.take 200)) - (at13 + (teD ((l.take 200).drop at13) e13 ((L.getD i13 (0, 0)).2))))))]), (fun φ57 xs57 => [[((φ10 0), .cells #[.slice a5 (List.length (l.take 200)) c5, .int .i64 ((at13 + (teD ((l.take 200).drop at13) e13 ((L.getD i13 (0, 0)).2)) : Nat) : Int), .int .i64 ((teE ((l.take 200).drop at13) e13 ((L.getD i13 (0, 0)).2) : Nat) : Int)] 74)]]), (fun φ57 xs57 => [[default, default, default, default, default, default, default, default, default, default, default, default, default, default, default, default, default, default, default, default, default, default, default]]), [], [1, 1, 1, 1, 3, 1, 1, 1, 1, 5, 1, 1, 1, 3, 1, 1, 1, 1, 1, 1, 5, 5, 1]⟩ (fun j => ([MP.any, MP.any, MP.any, MP.any, MP.any, MP.any, MP.any, MP.any, MP.any, MP.any, MP.any, MP.any, MP.any, MP.any, MP.any, MP.any, MP.any, MP.any, MP.any, MP.any, MP.any, MP.any, MP.any] : List MP).getD j MP.any) [4, 13] [9, 20, 21] [] (fun φ57 xs57 => []) (fun φ57 xs57 => [(77, .bool true), (78, .bool false), (79, .bool false), (80, .pointer (some ⟨b9, 0, none⟩)), (81, .int .i64 ((teE ((l.take 200).drop at13) e13 ((L.getD i13 (0, 0)).2) : Nat) : Int)), (82, .pointer (some ⟨(φ10 0), 0, none⟩)), (83, .pointer (some ⟨(φ10 0), 0, none⟩)), (84, .pointer (some ⟨(φ10 0), 2, none⟩)), (85, .int .i64 ((teE ((l.take 200).drop at13) e13 ((L.getD i13 (0, 0)).2) : Nat) : Int)), (86, .bool false), (87, .bool false), (88, .bool false), (89, .pointer (some ⟨b9, 0, none⟩)), (90, .int .i64 ((k51 : Nat) : Int)), (91, .slice a5 (List.length (l.take 200)) c5), (92, .int .i64 (((List.length (l.take 200)) : Nat) : Int)), (93, .pointer (some ⟨(φ10 0), 0, none⟩)), (94, .pointer (some ⟨(φ10 0), 0, none⟩)), (95, .pointer (some ⟨(φ10 0), 1, none⟩)), (96, .int .i64 ((at13 + (teD ((l.take 200).drop at13) e13 ((L.getD i13 (0, 0)).2)) : Nat) : Int)), (97, .int .i64 (((List.length (l.take 200)) - (at13 + (teD ((l.take 200).drop at13) e13 ((L.getD i13 (0, 0)).2))) : Nat) : Int)), (98, .bool (decide (k51 ≠ ((List.length (l.take 200)) - (at13 + (teD ((l.take 200).drop at13) e13 ((L.getD i13 (0, 0)).2))))))), (99, .bool (decide (k51 ≠ ((List.length (l.take 200)) - (at13 + (teD ((l.take 200).drop at13) e13 ((L.getD i13 (0, 0)).2)))))))]) (fun φ57 xs57 => [((φ10 0), .cells #[.slice a5 (List.length (l.take 200)) c5, .int .i64 ((at13 + (teD ((l.take 200).drop at13) e13 ((L.getD i13 (0, 0)).2)) : Nat) : Int), .int .i64 ((teE ((l.take 200).drop at13) e13 ((L.getD i13 (0, 0)).2) : Nat) : Int)] 74)]) s trivial (by kernel_rfl) (by kernel_rfl) (fun _ _ => by kernel_rfl) (fun _ _ => by kernel_rfl) ⟨fun _ _ => by kernel_rfl, fun _ _ => by kernel_rfl, fun _ _ => by kernel_rfl, fun _ _ => by kernel_rfl⟩ (fun _ _ _ => by kernel_rfl) (fun _ _ => by kernel_rfl) (fun _ _ => by kernel_rfl) (fun _ _ => by kernel_rfl) (fun _ _ => by kernel_rfl) (fun _ _ => by kernel_rfl) ⟨kcast (A := ∀ (φ57 : Nat → Nat) (xs57 : Xs), (.bool (((teE ((l.take 200).drop at13) e13 ((L.getD i13 (0, 0)).2) : Nat) : Int) != ((teE ((l.take 200).drop at13) e13 ((L.getD i13 (0, 0)).2) : Nat) : Int)) : Value) = .bool false) (by kernel_rfl) (fun φ57 xs57 => congrArg Value.bool (((nat_neq (a := (teE ((l.take 200).drop at13) e13 ((L.getD i13 (0, 0)).2))) (b := (teE ((l.take 200).drop at13) e13 ((L.getD i13 (0, 0)).2)))).trans (decide_eq_false (fun q => q rfl))))), ⟨kcast (A := ∀ (φ57 : Nat → Nat) (xs57 : Xs), (.int .i64 (IntKind.wrap .i64 ((((List.length (l.take 200)) : Nat) : Int) - ((at13 + (teD ((l.take 200).drop at13) e13 ((L.getD i13 (0, 0)).2)) : Nat) : Int))) : Value) = .int .i64 (((List.length (l.take 200)) - (at13 + (teD ((l.take 200).drop at13) e13 ((L.getD i13 (0, 0)).2))) : Nat) : Int)) (by kernel_rfl) (fun φ57 xs57 => congrArg (Value.int .i64) ((nat_subI (a := (List.length (l.take 200))) (b := (at13 + (teD ((l.take 200).drop at13) e13 ((L.getD i13 (0, 0)).2)))) (by have hb1 := hi13_1; have hD1 := byD_le ((l.take 200).drop at13) e13; have hD2 := nuD_le ((l.take 200).drop at13) e13; have hD3 := teD_le ((l.take 200).drop at13) e13 (L.getD i13 (0, 0)).2; have hw9 := wrapN_lt (L.getD i13 (0, 0)).2; (simp only [List.length_drop, List.length_take] at hb1 hD1 hD2 hD3); have hbd := asl_bd hA (of_decide_eq_true hc15); have hq0 := of_decide_eq_true hc15; have hq1 := of_decide_eq_false hc20; have hq2 := of_decide_eq_false hc25; have hq3 := of_decide_eq_false hc37; have hq4 := of_decide_eq_true hc49; (try simp only [List.length_drop, List.length_take, List.length_append, List.length_cons, List.length_nil]); omega) (by have hb1 := hi13_1; have hD1 := byD_le ((l.take 200).drop at13) e13; have hD2 := nuD_le ((l.take 200).drop at13) e13; have hD3 := teD_le ((l.take 200).drop at13) e13 (L.getD i13 (0, 0)).2; have hw9 := wrapN_lt (L.getD i13 (0, 0)).2; (simp only [List.length_drop, List.length_take] at hb1 hD1 hD2 hD3); have hbd := asl_bd hA (of_decide_eq_true hc15); have hq0 := of_decide_eq_true hc15; have hq1 := of_decide_eq_false hc20; have hq2 := of_decide_eq_false hc25; have hq3 := of_decide_eq_false hc37; have hq4 := of_decide_eq_true hc49; (try simp only [List.length_drop, List.length_take, List.length_append, List.length_cons, List.length_nil]); omega)))), ⟨kcast (A := ∀ (φ57 : Nat → Nat) (xs57 : Xs), (.bool (((k51 : Nat) : Int) != (((List.length (l.take 200)) - (at13 + (teD ((l.take 200).drop at13) e13 ((L.getD i13 (0, 0)).2))) : Nat) : Int)) : Value) = .bool (decide (k51 ≠ ((List.length (l.take 200)) - (at13 + (teD ((l.take 200).drop at13) e13 ((L.getD i13 (0, 0)).2))))))) (by kernel_rfl) (fun φ57 xs57 => congrArg Value.bool ((nat_neq (a := k51) (b := ((List.length (l.take 200)) - (at13 + (teD ((l.take 200).drop at13) e13 ((L.getD i13 (0, 0)).2)))))))), trivial⟩⟩⟩ trivial (by kernel_rfl) ⟨?c57_4, ?c57_13, trivial⟩ ?k57
            case c57_4 =>
              refine kcast (A := ∀ (φ57 : Nat → Nat) (xs57 : Xs) (J4_57 : IM), I56.Le J4_57 → Fun Try.prog 55 #[.pointer (some ⟨b9, 0, none⟩)] J4_57 (fun v J' => ∃ x : UX, v = .int .i64 ((teE ((l.take 200).drop at13) e13 ((L.getD i13 (0, 0)).2) : Nat) : Int) ∧ (True))) (by kernel_rfl) ?_
              intro φ57 xs57 J4_57 leJ
              have hk56 := leJ _ _ hk56
              exact Fun.mono (errF_c hk56) (fun v J' _ h => ⟨UX.d, h, trivial⟩)
            case c57_13 =>
              refine kcast (A := ∀ (φ57 : Nat → Nat) (xs57 : Xs) (J13_57 : IM), I56.Le J13_57 → (True) → Fun Try.prog 56 #[.pointer (some ⟨b9, 0, none⟩)] J13_57 (fun v J' => ∃ x : UX, v = .int .i64 ((k51 : Nat) : Int) ∧ (True))) (by kernel_rfl) ?_
              intro φ57 xs57 J13_57 leJ
              rintro _
              have hk56 := leJ _ _ hk56
              exact Fun.mono (leftF_c hk56) (fun v J' _ h => ⟨UX.d, h, trivial⟩)
            case k57 =>
              rintro φ57 xs57 I57 w57 le57 s _ _
              replace hl := BSl.mono le57 hl
              replace hA := ASl.mono le57 hA
              replace h5_0 := BSl.mono le57 h5_0
              replace h8_0 := BSl.mono le57 h8_0
              replace hb9 := BSl.mono le57 hb9
              replace hle12 := leMono le57 hle12
              replace hi13_2 := BSl.mono le57 hi13_2
              replace hH50 := leMono le57 hH50
              replace h51_0 := BSl.mono le57 h51_0
              replace hT55 := leMono le57 hT55
              replace hk18 := le57 _ _ hk18
              replace hk56 := le57 _ _ hk56
              replace s := St.thaw s hk56 hz55.2.1 hz55.2.2
              have leT55 := IM.le_del (g := b9) hT55 hz55.1
              generalize IM.del I57 b9 = J55 at s leT55
              replace hl := BSl.mono leT55 hlK55
              replace hA := ASl.mono leT55 hAK55
              replace h5_0 := BSl.mono leT55 h5_0K55
              replace h8_0 := BSl.mono leT55 h8_0K55
              replace hb9 := BSl.mono leT55 hb9K55
              replace hle12 := leMono leT55 hle12K55
              replace hi13_2 := BSl.mono leT55 hi13_2K55
              replace hH50 := leMono leT55 hH50K55
              replace h51_0 := BSl.mono leT55 h51_0K55
              replace hk18 := leT55 _ _ hk18K55
              rcases Bool.eq_false_or_eq_true (decide (k51 ≠ ((List.length (l.take 200)) - (at13 + (teD ((l.take 200).drop at13) e13 ((L.getD i13 (0, 0)).2)))))) with hc58 | hc58
              ·
                exact absurd (of_decide_eq_true hc58) (by have hk9 := (h51_0).cap.1; have hb1 := hi13_1; have hD1 := byD_le ((l.take 200).drop at13) e13; have hD2 := nuD_le ((l.take 200).drop at13) e13; have hD3 := teD_le ((l.take 200).drop at13) e13 (L.getD i13 (0, 0)).2; have hw9 := wrapN_lt (L.getD i13 (0, 0)).2; (simp only [List.length_drop, List.length_take] at hb1 hD1 hD2 hD3); have hbd := asl_bd hA (of_decide_eq_true hc15); simp only [List.length_drop, List.length_take, List.length_append, List.length_cons, List.length_nil] at hk9 ⊢; omega)
              ·
                rw [hc58]
                refine cond_false_rule (b := false) (by kernel_rfl) rfl ?_
                refine wp_skip ?_
                refine region_rule ?_
                refine ops_rule (C := []) [((φ10 0), .cells #[.slice a5 (List.length (l.take 200)) c5, .int .i64 ((at13 + (teD ((l.take 200).drop at13) e13 ((L.getD i13 (0, 0)).2)) : Nat) : Int), .int .i64 ((teE ((l.take 200).drop at13) e13 ((L.getD i13 (0, 0)).2) : Nat) : Int)] 74), (b9, .cells #[.slice a51 k51 c51, .int .i64 ((teE ((l.take 200).drop at13) e13 ((L.getD i13 (0, 0)).2) : Nat) : Int)] 105)] [] 2 [] 0 (fun φ59 => [(23, .int .i64 (IntKind.wrap .i64 (((i13 : Nat) : Int) + ((1 : Nat) : Int)))), (100, .int .i64 (IntKind.wrap .i64 (((i13 : Nat) : Int) + ((1 : Nat) : Int))))]) (fun φ59 => [((φ10 0), .cells #[.slice a5 (List.length (l.take 200)) c5, .int .i64 ((at13 + (teD ((l.take 200).drop at13) e13 ((L.getD i13 (0, 0)).2)) : Nat) : Int), .int .i64 ((teE ((l.take 200).drop at13) e13 ((L.getD i13 (0, 0)).2) : Nat) : Int)] 74), (b9, .cells #[.slice a51 k51 c51, .int .i64 ((teE ((l.take 200).drop at13) e13 ((L.getD i13 (0, 0)).2) : Nat) : Int)] 105)]) (fun φ59 => []) s trivial (fun φ59 => by kernel_rfl) ?_
                intro φ59 w59 s
                rw [nat_addI (a := i13) (b := 1) (by have hb1 := hi13_1; have hD1 := byD_le ((l.take 200).drop at13) e13; have hD2 := nuD_le ((l.take 200).drop at13) e13; have hD3 := teD_le ((l.take 200).drop at13) e13 (L.getD i13 (0, 0)).2; have hw9 := wrapN_lt (L.getD i13 (0, 0)).2; (simp only [List.length_drop, List.length_take] at hb1 hD1 hD2 hD3); have hbd := asl_bd hA (of_decide_eq_true hc15); have hq0 := of_decide_eq_true hc15; have hq1 := of_decide_eq_false hc20; have hq2 := of_decide_eq_false hc25; have hq3 := of_decide_eq_false hc37; have hq4 := of_decide_eq_true hc49; have hq5 := of_decide_eq_false hc58; omega)]
                refine ops_done (by kernel_rfl) ?_
                exact ⟨⟨m13 - 1, (i13 + 1, at13 + (teD ((l.take 200).drop at13) e13 ((L.getD i13 (0, 0)).2)), teE ((l.take 200).drop at13) e13 ((L.getD i13 (0, 0)).2), a51, k51, c51), _, _, _, by have hq0 := of_decide_eq_true hc15; have hq1 := of_decide_eq_false hc20; have hq2 := of_decide_eq_false hc25; have hq3 := of_decide_eq_false hc37; have hq4 := of_decide_eq_true hc49; have hq5 := of_decide_eq_false hc58; have := hi13_0; omega, rfl, s, (List.Sublist.cons₂ _ (List.Sublist.cons₂ _ List.Sublist.slnil)), by kernel_rfl, hle12, by have hq0 := of_decide_eq_true hc15; have hq1 := of_decide_eq_false hc20; have hq2 := of_decide_eq_false hc25; have hq3 := of_decide_eq_false hc37; have hq4 := of_decide_eq_true hc49; have hq5 := of_decide_eq_false hc58; have := hi13_0; show i13 + 1 + (m13 - 1) = L.length; omega, by have hb1 := hi13_1; have hD1 := byD_le ((l.take 200).drop at13) e13; have hD2 := nuD_le ((l.take 200).drop at13) e13; have hD3 := teD_le ((l.take 200).drop at13) e13 (L.getD i13 (0, 0)).2; have hw9 := wrapN_lt (L.getD i13 (0, 0)).2; (simp only [List.length_drop, List.length_take] at hb1 hD1 hD2 hD3); have hbd := asl_bd hA (of_decide_eq_true hc15); show _ ≤ _; (try simp only [List.length_drop, List.length_take, List.length_append, List.length_cons, List.length_nil]); omega, bsl_eq h51_0 (by rw [List.drop_drop])⟩⟩
          ·
            rw [hc49]
            refine cond_false_rule (b := false) (by kernel_rfl) rfl ?_
            refine wp_seq ?_
            refine region_rule ?_
            refine ops_rule (C := []) [((φ10 0), .cells #[.slice a5 (List.length (l.take 200)) c5, .int .i64 ((at13 : Nat) : Int), .int .i64 ((e13 : Nat) : Int)] 74), (b9, .cells #[.slice a13 k13 c13, .int .i64 ((e13 : Nat) : Int)] 105)] [] 2 [] 0 (fun φ60 => [(63, .bool (((((L.getD i13 (0, 0)).1) % 5 : Nat) : Int) == ((3 : Nat) : Int))), (64, .bool (((((L.getD i13 (0, 0)).1) % 5 : Nat) : Int) == ((3 : Nat) : Int)))]) (fun φ60 => [((φ10 0), .cells #[.slice a5 (List.length (l.take 200)) c5, .int .i64 ((at13 : Nat) : Int), .int .i64 ((e13 : Nat) : Int)] 74), (b9, .cells #[.slice a13 k13 c13, .int .i64 ((e13 : Nat) : Int)] 105)]) (fun φ60 => []) s trivial (fun φ60 => by kernel_rfl) ?_
            intro φ60 w60 s
            rw [nat_eql (a := (((L.getD i13 (0, 0)).1) % 5)) (b := 3)]
            refine ops_done (by kernel_rfl) ?_
            rcases Bool.eq_false_or_eq_true (decide ((((L.getD i13 (0, 0)).1) % 5) = 3)) with hc61 | hc61
            ·
              rw [hc61]
              refine cond_true_rule (b := true) (by kernel_rfl) rfl ?_
              refine wp_seq ?_
              refine region_rule ?_
              refine ops_rule (C := [((φ17 0), .cells #[.int .u8 (((L.getD i13 (0, 0)).1 : Nat) : Int), .int .i64 ((L.getD i13 (0, 0)).2)] 76)]) [((φ10 0), .cells #[.slice a5 (List.length (l.take 200)) c5, .int .i64 ((at13 : Nat) : Int), .int .i64 ((e13 : Nat) : Int)] 74), (b9, .cells #[.slice a13 k13 c13, .int .i64 ((e13 : Nat) : Int)] 105)] [] 2 [.c 0] 0 (fun φ62 => [(66, .int .i64 ((L.getD i13 (0, 0)).2)), (65, .pointer (some ⟨(φ17 0), 1, none⟩))]) (fun φ62 => [((φ10 0), .cells #[.slice a5 (List.length (l.take 200)) c5, .int .i64 ((at13 : Nat) : Int), .int .i64 ((e13 : Nat) : Int)] 74), (b9, .cells #[.slice a13 k13 c13, .int .i64 ((e13 : Nat) : Int)] 105)]) (fun φ62 => [(φ17 0)]) s ⟨hk18, trivial⟩ (fun φ62 => by kernel_rfl) ?_
              intro φ62 w62 s
              refine sem_rule (convert 3 82 (.int .i64 ((L.getD i13 (0, 0)).2))) (some 67) (.int .u64 ((wrapN ((L.getD i13 (0, 0)).2) : Nat) : Int)) (by kernel_rfl) (run_convU) ?_
              refine ops_rule (C := []) [((φ10 0), .cells #[.slice a5 (List.length (l.take 200)) c5, .int .i64 ((at13 : Nat) : Int), .int .i64 ((e13 : Nat) : Int)] 74), (b9, .cells #[.slice a13 k13 c13, .int .i64 ((e13 : Nat) : Int)] 105)] [] 4 [] 0 (fun φ63 => [(10, .int .i64 (IntKind.wrap .i64 (((1 : Nat) : Int) + (IntKind.wrap .i64 (Int.tmod ((wrapN ((L.getD i13 (0, 0)).2) : Nat) : Int) ((14 : Nat) : Int)))))), (70, .int .i64 (IntKind.wrap .i64 (((1 : Nat) : Int) + (IntKind.wrap .i64 (Int.tmod ((wrapN ((L.getD i13 (0, 0)).2) : Nat) : Int) ((14 : Nat) : Int)))))), (69, .int .i64 (IntKind.wrap .i64 (Int.tmod ((wrapN ((L.getD i13 (0, 0)).2) : Nat) : Int) ((14 : Nat) : Int)))), (68, .int .u64 (Int.tmod ((wrapN ((L.getD i13 (0, 0)).2) : Nat) : Int) ((14 : Nat) : Int)))]) (fun φ63 => [((φ10 0), .cells #[.slice a5 (List.length (l.take 200)) c5, .int .i64 ((at13 : Nat) : Int), .int .i64 ((e13 : Nat) : Int)] 74), (b9, .cells #[.slice a13 k13 c13, .int .i64 ((e13 : Nat) : Int)] 105)]) (fun φ63 => []) s trivial (fun φ63 => by kernel_rfl) ?_
              intro φ63 w63 s
              rw [nat_rem (a := (wrapN ((L.getD i13 (0, 0)).2))) (b := 14)]
              rw [nat_wrapI (a := ((wrapN ((L.getD i13 (0, 0)).2)) % 14)) (by have hb1 := hi13_1; have hD1 := byD_le ((l.take 200).drop at13) e13; have hD2 := nuD_le ((l.take 200).drop at13) e13; have hD3 := teD_le ((l.take 200).drop at13) e13 (L.getD i13 (0, 0)).2; have hw9 := wrapN_lt (L.getD i13 (0, 0)).2; (simp only [List.length_drop, List.length_take] at hb1 hD1 hD2 hD3); have hbd := asl_bd hA (of_decide_eq_true hc15); have hq0 := of_decide_eq_true hc15; have hq1 := of_decide_eq_false hc20; have hq2 := of_decide_eq_false hc25; have hq3 := of_decide_eq_false hc37; have hq4 := of_decide_eq_false hc49; have hq5 := of_decide_eq_true hc61; omega)]
              rw [nat_addI (a := 1) (b := ((wrapN ((L.getD i13 (0, 0)).2)) % 14)) (by have hb1 := hi13_1; have hD1 := byD_le ((l.take 200).drop at13) e13; have hD2 := nuD_le ((l.take 200).drop at13) e13; have hD3 := teD_le ((l.take 200).drop at13) e13 (L.getD i13 (0, 0)).2; have hw9 := wrapN_lt (L.getD i13 (0, 0)).2; (simp only [List.length_drop, List.length_take] at hb1 hD1 hD2 hD3); have hbd := asl_bd hA (of_decide_eq_true hc15); have hq0 := of_decide_eq_true hc15; have hq1 := of_decide_eq_false hc20; have hq2 := of_decide_eq_false hc25; have hq3 := of_decide_eq_false hc37; have hq4 := of_decide_eq_false hc49; have hq5 := of_decide_eq_true hc61; omega)]
              refine ops_done (by kernel_rfl) ?_
              refine wp_seq ?_
              refine region_rule ?_
              refine ops_rule (C := []) [((φ10 0), .cells #[.slice a5 (List.length (l.take 200)) c5, .int .i64 ((at13 : Nat) : Int), .int .i64 ((e13 : Nat) : Int)] 74), (b9, .cells #[.slice a13 k13 c13, .int .i64 ((e13 : Nat) : Int)] 105)] [] 2 [] 0 (fun φ64 => [(72, .int .i64 ((1 + ((wrapN ((L.getD i13 (0, 0)).2)) % 14) : Nat) : Int)), (71, .pointer (some ⟨b9, 0, none⟩))]) (fun φ64 => [((φ10 0), .cells #[.slice a5 (List.length (l.take 200)) c5, .int .i64 ((at13 : Nat) : Int), .int .i64 ((e13 : Nat) : Int)] 74), (b9, .cells #[.slice a13 k13 c13, .int .i64 ((e13 : Nat) : Int)] 105)]) (fun φ64 => []) s trivial (fun φ64 => by kernel_rfl) ?_
              intro φ64 w64 s
              refine callB_rule (b := (b9, .cells #[.slice a13 k13 c13, .int .i64 ((e13 : Nat) : Int)] 105)) (H := [((φ10 0), .cells #[.slice a5 (List.length (l.take 200)) c5, .int .i64 ((at13 : Nat) : Int), .int .i64 ((e13 : Nat) : Int)] 74), (b9, .cells #[.slice a13 k13 c13, .int .i64 ((e13 : Nat) : Int)] 105)]) (F := []) (Hr := [((φ10 0), .cells #[.slice a5 (List.length (l.take 200)) c5, .int .i64 ((at13 : Nat) : Int), .int .i64 ((e13 : Nat) : Int)] 74)]) (some 73) 1 s (by kernel_rfl) (by kernel_rfl) (failG_c (r := b9) (e := e13) (q := 1 + ((wrapN ((L.getD i13 (0, 0)).2)) % 14)) hi13_2 (by simp only [List.length_drop, List.length_take]; omega)) (by kernel_rfl) ?_
              rintro v65 I65 w65 b65 le65 - h65 s
              replace hl := BSl.mono le65 hl
              replace hA := ASl.mono le65 hA
              replace h5_0 := BSl.mono le65 h5_0
              replace h8_0 := BSl.mono le65 h8_0
              replace hb9 := BSl.mono le65 hb9
              replace hle12 := leMono le65 hle12
              replace hi13_2 := BSl.mono le65 hi13_2
              replace hk18 := le65 _ _ hk18
              obtain ⟨a65, k65, c65, rfl, rfl, h65_0⟩ := h65
              refine ops_done (by kernel_rfl) ?_
              refine region_rule ?_
              refine ops_rule (C := []) [(b9, .cells #[.slice a65 k65 c65, .int .i64 ((faE (1 + ((wrapN ((L.getD i13 (0, 0)).2)) % 14)) e13 : Nat) : Int)] 105), ((φ10 0), .cells #[.slice a5 (List.length (l.take 200)) c5, .int .i64 ((at13 : Nat) : Int), .int .i64 ((e13 : Nat) : Int)] 74)] [] 2 [] 0 (fun φ66 => [(75, .int .i64 ((1 + ((wrapN ((L.getD i13 (0, 0)).2)) % 14) : Nat) : Int)), (74, .pointer (some ⟨(φ10 0), 0, none⟩))]) (fun φ66 => [(b9, .cells #[.slice a65 k65 c65, .int .i64 ((faE (1 + ((wrapN ((L.getD i13 (0, 0)).2)) % 14)) e13 : Nat) : Int)] 105), ((φ10 0), .cells #[.slice a5 (List.length (l.take 200)) c5, .int .i64 ((at13 : Nat) : Int), .int .i64 ((e13 : Nat) : Int)] 74)]) (fun φ66 => []) s trivial (fun φ66 => by kernel_rfl) ?_
              intro φ66 w66 s
              refine callB_rule (b := ((φ10 0), .cells #[.slice a5 (List.length (l.take 200)) c5, .int .i64 ((at13 : Nat) : Int), .int .i64 ((e13 : Nat) : Int)] 74)) (H := [(b9, .cells #[.slice a65 k65 c65, .int .i64 ((faE (1 + ((wrapN ((L.getD i13 (0, 0)).2)) % 14)) e13 : Nat) : Int)] 105), ((φ10 0), .cells #[.slice a5 (List.length (l.take 200)) c5, .int .i64 ((at13 : Nat) : Int), .int .i64 ((e13 : Nat) : Int)] 74)]) (F := []) (Hr := [(b9, .cells #[.slice a65 k65 c65, .int .i64 ((faE (1 + ((wrapN ((L.getD i13 (0, 0)).2)) % 14)) e13 : Nat) : Int)] 105)]) (some 76) 1 s (by kernel_rfl) (by kernel_rfl) (refFail_c (x := (φ10 0)) (at0 := at13) (e := e13) (q := 1 + ((wrapN ((L.getD i13 (0, 0)).2)) % 14)) h5_0 (by simp only [List.length_drop, List.length_take]; omega) hi13_1) (by kernel_rfl) ?_
              rintro v67 I67 w67 b67 le67 - h67 s
              replace hl := BSl.mono le67 hl
              replace hA := ASl.mono le67 hA
              replace h5_0 := BSl.mono le67 h5_0
              replace h8_0 := BSl.mono le67 h8_0
              replace hb9 := BSl.mono le67 hb9
              replace hle12 := leMono le67 hle12
              replace hi13_2 := BSl.mono le67 hi13_2
              replace h65_0 := BSl.mono le67 h65_0
              replace hk18 := le67 _ _ hk18
              obtain ⟨rfl, rfl⟩ := h67
              refine ops_done (by kernel_rfl) ?_
              refine wp_seq ?_
              have hz68 := St.none0 s (g := b9) (o := .cells #[.slice a65 k65 c65, .int .i64 ((faE (1 + ((wrapN ((L.getD i13 (0, 0)).2)) % 14)) e13 : Nat) : Int)] 105) (by simp)
              have hT68 := IM.Le.refl I67
              have hlK68 := hl
              have hAK68 := hA
              have h5_0K68 := h5_0
              have h8_0K68 := h8_0
              have hb9K68 := hb9
              have hle12K68 := hle12
              have hi13_2K68 := hi13_2
              have h65_0K68 := h65_0
              have hk18K68 := hk18
              obtain ⟨I69, le69, hk69, s⟩ := s.freezeAt 1 b9 (.cells #[.slice a65 k65 c65, .int .i64 ((faE (1 + ((wrapN ((L.getD i13 (0, 0)).2)) % 14)) e13 : Nat) : Int)] 105) [((φ10 0), .cells #[.slice a5 (List.length (l.take 200)) c5, .int .i64 ((at13 + 0 : Nat) : Int), .int .i64 ((faE (1 + ((wrapN ((L.getD i13 (0, 0)).2)) % 14)) e13 : Nat) : Int)] 74)] (by kernel_rfl) (by kernel_rfl)
              replace hl := BSl.mono le69 hl
              replace hA := ASl.mono le69 hA
              replace h5_0 := BSl.mono le69 h5_0
              replace h8_0 := BSl.mono le69 h8_0
              replace hb9 := BSl.mono le69 hb9
              replace hle12 := leMono le69 hle12
              replace hi13_2 := BSl.mono le69 hi13_2
              replace h65_0 := BSl.mono le69 h65_0
              replace hT68 := leMono le69 hT68
              replace hk18 := le69 _ _ hk18
              refine draw_rule (C := []) ⟨(fun φ70 xs70 => [.look 0 [] [], .look 0 [] [], .look 0 [] [], .look 0 [] [], .call 55 #[.pointer (some ⟨b9, 0, none⟩)], .look 0 [] [], .look 0 [] [], .look 0 [] [], .look 0 [.o 0] [(φ10 0)], .sub 0 [] [] (.bool (((faE (1 + ((wrapN ((L.getD i13 (0, 0)).2)) % 14)) e13 : Nat) : Int) != ((faE (1 + ((wrapN ((L.getD i13 (0, 0)).2)) % 14)) e13 : Nat) : Int))), .look 0 [] [], .look 0 [] [], .look 0 [] [], .call 56 #[.pointer (some ⟨b9, 0, none⟩)], .look 0 [] [], .look 0 [] [], .look 0 [] [], .look 0 [] [], .look 0 [] [], .look 0 [.o 0] [(φ10 0)], .sub 0 [] [] (.int .i64 (IntKind.wrap .i64 ((((List.length (l.take 200)) : Nat) : Int) - ((at13 + 0 : Nat) : Int)))), .sub 0 [] [] (.bool (((k65 : Nat) : Int) != (((List.length (l.take 200)) - (at13 + 0) : Nat) : Int))), .look 0 [] []]), (fun φ70 xs70 => [.bool true, .bool false, .bool false, .pointer (some ⟨b9, 0, none⟩), .int .i64 ((faE (1 + ((wrapN ((L.getD i13 (0, 0)).2)) % 14)) e13 : Nat) : Int), .pointer (some ⟨(φ10 0), 0, none⟩), .pointer (some ⟨(φ10 0), 0, none⟩), .pointer (some ⟨(φ10 0), 2, none⟩), .int .i64 ((faE (1 + ((wrapN ((L.getD i13 (0, 0)).2)) % 14)) e13 : Nat) : Int), .bool false, .bool false, .bool false, .pointer (some ⟨b9, 0, none⟩), .int .i64 ((k65 : Nat) : Int), .slice a5 (List.length (l.take 200)) c5, .int .i64 (((List.length (l.take 200)) : Nat) : Int), .pointer (some ⟨(φ10 0), 0, none⟩), .pointer (some ⟨(φ10 0), 0, none⟩), .pointer (some ⟨(φ10 0), 1, none⟩), .int .i64 ((at13 + 0 : Nat) : Int), .int .i64 (((List.length (l.take 200)) - (at13 + 0) : Nat) : Int), .bool (decide (k65 ≠ ((List.length (l.take 200)) - (at13 + 0)))), .bool (decide (k65 ≠ ((List.length (l.take 200)) - (at13 + 0))))]), (fun φ70 xs70 => [[((φ10 0), .cells #[.slice a5 (List.length (l.take 200)) c5, .int .i64 ((at13 + 0 : Nat) : Int), .int .i64 ((faE (1 + ((wrapN ((L.getD i13 (0, 0)).2)) % 14)) e13 : Nat) : Int)] 74)]]), (fun φ70 xs70 => [[default, default, default, default, default, default, default, default, default, default, default, default, default, default, default, default, default, default, default, default, default, default, default]]), [], [1, 1, 1, 1, 3, 1, 1, 1, 1, 5, 1, 1, 1, 3, 1, 1, 1, 1, 1, 1, 5, 5, 1]⟩ (fun j => ([MP.any, MP.any, MP.any, MP.any, MP.any, MP.any, MP.any, MP.any, MP.any, MP.any, MP.any, MP.any, MP.any, MP.any, MP.any, MP.any, MP.any, MP.any, MP.any, MP.any, MP.any, MP.any, MP.any] : List MP).getD j MP.any) [4, 13] [9, 20, 21] [] (fun φ70 xs70 => []) (fun φ70 xs70 => [(77, .bool true), (78, .bool false), (79, .bool false), (80, .pointer (some ⟨b9, 0, none⟩)), (81, .int .i64 ((faE (1 + ((wrapN ((L.getD i13 (0, 0)).2)) % 14)) e13 : Nat) : Int)), (82, .pointer (some ⟨(φ10 0), 0, none⟩)), (83, .pointer (some ⟨(φ10 0), 0, none⟩)), (84, .pointer (some ⟨(φ10 0), 2, none⟩)), (85, .int .i64 ((faE (1 + ((wrapN ((L.getD i13 (0, 0)).2)) % 14)) e13 : Nat) : Int)), (86, .bool false), (87, .bool false), (88, .bool false), (89, .pointer (some ⟨b9, 0, none⟩)), (90, .int .i64 ((k65 : Nat) : Int)), (91, .slice a5 (List.length (l.take 200)) c5), (92, .int .i64 (((List.length (l.take 200)) : Nat) : Int)), (93, .pointer (some ⟨(φ10 0), 0, none⟩)), (94, .pointer (some ⟨(φ10 0), 0, none⟩)), (95, .pointer (some ⟨(φ10 0), 1, none⟩)), (96, .int .i64 ((at13 + 0 : Nat) : Int)), (97, .int .i64 (((List.length (l.take 200)) - (at13 + 0) : Nat) : Int)), (98, .bool (decide (k65 ≠ ((List.length (l.take 200)) - (at13 + 0))))), (99, .bool (decide (k65 ≠ ((List.length (l.take 200)) - (at13 + 0)))))]) (fun φ70 xs70 => [((φ10 0), .cells #[.slice a5 (List.length (l.take 200)) c5, .int .i64 ((at13 + 0 : Nat) : Int), .int .i64 ((faE (1 + ((wrapN ((L.getD i13 (0, 0)).2)) % 14)) e13 : Nat) : Int)] 74)]) s trivial (by kernel_rfl) (by kernel_rfl) (fun _ _ => by kernel_rfl) (fun _ _ => by kernel_rfl) ⟨fun _ _ => by kernel_rfl, fun _ _ => by kernel_rfl, fun _ _ => by kernel_rfl, fun _ _ => by kernel_rfl⟩ (fun _ _ _ => by kernel_rfl) (fun _ _ => by kernel_rfl) (fun _ _ => by kernel_rfl) (fun _ _ => by kernel_rfl) (fun _ _ => by kernel_rfl) (fun _ _ => by kernel_rfl) ⟨kcast (A := ∀ (φ70 : Nat → Nat) (xs70 : Xs), (.bool (((faE (1 + ((wrapN ((L.getD i13 (0, 0)).2)) % 14)) e13 : Nat) : Int) != ((faE (1 + ((wrapN ((L.getD i13 (0, 0)).2)) % 14)) e13 : Nat) : Int)) : Value) = .bool false) (by kernel_rfl) (fun φ70 xs70 => congrArg Value.bool (((nat_neq (a := (faE (1 + ((wrapN ((L.getD i13 (0, 0)).2)) % 14)) e13)) (b := (faE (1 + ((wrapN ((L.getD i13 (0, 0)).2)) % 14)) e13))).trans (decide_eq_false (fun q => q rfl))))), ⟨kcast (A := ∀ (φ70 : Nat → Nat) (xs70 : Xs), (.int .i64 (IntKind.wrap .i64 ((((List.length (l.take 200)) : Nat) : Int) - ((at13 + 0 : Nat) : Int))) : Value) = .int .i64 (((List.length (l.take 200)) - (at13 + 0) : Nat) : Int)) (by kernel_rfl) (fun φ70 xs70 => congrArg (Value.int .i64) ((nat_subI (a := (List.length (l.take 200))) (b := (at13 + 0)) (by have hb1 := hi13_1; have hD1 := byD_le ((l.take 200).drop at13) e13; have hD2 := nuD_le ((l.take 200).drop at13) e13; have hD3 := teD_le ((l.take 200).drop at13) e13 (L.getD i13 (0, 0)).2; have hw9 := wrapN_lt (L.getD i13 (0, 0)).2; (simp only [List.length_drop, List.length_take] at hb1 hD1 hD2 hD3); have hbd := asl_bd hA (of_decide_eq_true hc15); have hq0 := of_decide_eq_true hc15; have hq1 := of_decide_eq_false hc20; have hq2 := of_decide_eq_false hc25; have hq3 := of_decide_eq_false hc37; have hq4 := of_decide_eq_false hc49; have hq5 := of_decide_eq_true hc61; (try simp only [List.length_drop, List.length_take, List.length_append, List.length_cons, List.length_nil]); omega) (by have hb1 := hi13_1; have hD1 := byD_le ((l.take 200).drop at13) e13; have hD2 := nuD_le ((l.take 200).drop at13) e13; have hD3 := teD_le ((l.take 200).drop at13) e13 (L.getD i13 (0, 0)).2; have hw9 := wrapN_lt (L.getD i13 (0, 0)).2; (simp only [List.length_drop, List.length_take] at hb1 hD1 hD2 hD3); have hbd := asl_bd hA (of_decide_eq_true hc15); have hq0 := of_decide_eq_true hc15; have hq1 := of_decide_eq_false hc20; have hq2 := of_decide_eq_false hc25; have hq3 := of_decide_eq_false hc37; have hq4 := of_decide_eq_false hc49; have hq5 := of_decide_eq_true hc61; (try simp only [List.length_drop, List.length_take, List.length_append, List.length_cons, List.length_nil]); omega)))), ⟨kcast (A := ∀ (φ70 : Nat → Nat) (xs70 : Xs), (.bool (((k65 : Nat) : Int) != (((List.length (l.take 200)) - (at13 + 0) : Nat) : Int)) : Value) = .bool (decide (k65 ≠ ((List.length (l.take 200)) - (at13 + 0))))) (by kernel_rfl) (fun φ70 xs70 => congrArg Value.bool ((nat_neq (a := k65) (b := ((List.length (l.take 200)) - (at13 + 0)))))), trivial⟩⟩⟩ trivial (by kernel_rfl) ⟨?c70_4, ?c70_13, trivial⟩ ?k70
              case c70_4 =>
                refine kcast (A := ∀ (φ70 : Nat → Nat) (xs70 : Xs) (J4_70 : IM), I69.Le J4_70 → Fun Try.prog 55 #[.pointer (some ⟨b9, 0, none⟩)] J4_70 (fun v J' => ∃ x : UX, v = .int .i64 ((faE (1 + ((wrapN ((L.getD i13 (0, 0)).2)) % 14)) e13 : Nat) : Int) ∧ (True))) (by kernel_rfl) ?_
                intro φ70 xs70 J4_70 leJ
                have hk69 := leJ _ _ hk69
                exact Fun.mono (errF_c hk69) (fun v J' _ h => ⟨UX.d, h, trivial⟩)
              case c70_13 =>
                refine kcast (A := ∀ (φ70 : Nat → Nat) (xs70 : Xs) (J13_70 : IM), I69.Le J13_70 → (True) → Fun Try.prog 56 #[.pointer (some ⟨b9, 0, none⟩)] J13_70 (fun v J' => ∃ x : UX, v = .int .i64 ((k65 : Nat) : Int) ∧ (True))) (by kernel_rfl) ?_
                intro φ70 xs70 J13_70 leJ
                rintro _
                have hk69 := leJ _ _ hk69
                exact Fun.mono (leftF_c hk69) (fun v J' _ h => ⟨UX.d, h, trivial⟩)
              case k70 =>
                rintro φ70 xs70 I70 w70 le70 s _ _
                replace hl := BSl.mono le70 hl
                replace hA := ASl.mono le70 hA
                replace h5_0 := BSl.mono le70 h5_0
                replace h8_0 := BSl.mono le70 h8_0
                replace hb9 := BSl.mono le70 hb9
                replace hle12 := leMono le70 hle12
                replace hi13_2 := BSl.mono le70 hi13_2
                replace h65_0 := BSl.mono le70 h65_0
                replace hT68 := leMono le70 hT68
                replace hk18 := le70 _ _ hk18
                replace hk69 := le70 _ _ hk69
                replace s := St.thaw s hk69 hz68.2.1 hz68.2.2
                have leT68 := IM.le_del (g := b9) hT68 hz68.1
                generalize IM.del I70 b9 = J68 at s leT68
                replace hl := BSl.mono leT68 hlK68
                replace hA := ASl.mono leT68 hAK68
                replace h5_0 := BSl.mono leT68 h5_0K68
                replace h8_0 := BSl.mono leT68 h8_0K68
                replace hb9 := BSl.mono leT68 hb9K68
                replace hle12 := leMono leT68 hle12K68
                replace hi13_2 := BSl.mono leT68 hi13_2K68
                replace h65_0 := BSl.mono leT68 h65_0K68
                replace hk18 := leT68 _ _ hk18K68
                rcases Bool.eq_false_or_eq_true (decide (k65 ≠ ((List.length (l.take 200)) - (at13 + 0)))) with hc71 | hc71
                ·
                  exact absurd (of_decide_eq_true hc71) (by have hk9 := (h65_0).cap.1; have hb1 := hi13_1; have hD1 := byD_le ((l.take 200).drop at13) e13; have hD2 := nuD_le ((l.take 200).drop at13) e13; have hD3 := teD_le ((l.take 200).drop at13) e13 (L.getD i13 (0, 0)).2; have hw9 := wrapN_lt (L.getD i13 (0, 0)).2; (simp only [List.length_drop, List.length_take] at hb1 hD1 hD2 hD3); have hbd := asl_bd hA (of_decide_eq_true hc15); simp only [List.length_drop, List.length_take, List.length_append, List.length_cons, List.length_nil] at hk9 ⊢; omega)
                ·
                  rw [hc71]
                  refine cond_false_rule (b := false) (by kernel_rfl) rfl ?_
                  refine wp_skip ?_
                  refine region_rule ?_
                  refine ops_rule (C := []) [((φ10 0), .cells #[.slice a5 (List.length (l.take 200)) c5, .int .i64 ((at13 + 0 : Nat) : Int), .int .i64 ((faE (1 + ((wrapN ((L.getD i13 (0, 0)).2)) % 14)) e13 : Nat) : Int)] 74), (b9, .cells #[.slice a65 k65 c65, .int .i64 ((faE (1 + ((wrapN ((L.getD i13 (0, 0)).2)) % 14)) e13 : Nat) : Int)] 105)] [] 2 [] 0 (fun φ72 => [(23, .int .i64 (IntKind.wrap .i64 (((i13 : Nat) : Int) + ((1 : Nat) : Int)))), (100, .int .i64 (IntKind.wrap .i64 (((i13 : Nat) : Int) + ((1 : Nat) : Int))))]) (fun φ72 => [((φ10 0), .cells #[.slice a5 (List.length (l.take 200)) c5, .int .i64 ((at13 + 0 : Nat) : Int), .int .i64 ((faE (1 + ((wrapN ((L.getD i13 (0, 0)).2)) % 14)) e13 : Nat) : Int)] 74), (b9, .cells #[.slice a65 k65 c65, .int .i64 ((faE (1 + ((wrapN ((L.getD i13 (0, 0)).2)) % 14)) e13 : Nat) : Int)] 105)]) (fun φ72 => []) s trivial (fun φ72 => by kernel_rfl) ?_
                  intro φ72 w72 s
                  rw [nat_addI (a := i13) (b := 1) (by have hb1 := hi13_1; have hD1 := byD_le ((l.take 200).drop at13) e13; have hD2 := nuD_le ((l.take 200).drop at13) e13; have hD3 := teD_le ((l.take 200).drop at13) e13 (L.getD i13 (0, 0)).2; have hw9 := wrapN_lt (L.getD i13 (0, 0)).2; (simp only [List.length_drop, List.length_take] at hb1 hD1 hD2 hD3); have hbd := asl_bd hA (of_decide_eq_true hc15); have hq0 := of_decide_eq_true hc15; have hq1 := of_decide_eq_false hc20; have hq2 := of_decide_eq_false hc25; have hq3 := of_decide_eq_false hc37; have hq4 := of_decide_eq_false hc49; have hq5 := of_decide_eq_true hc61; have hq6 := of_decide_eq_false hc71; omega)]
                  refine ops_done (by kernel_rfl) ?_
                  exact ⟨⟨m13 - 1, (i13 + 1, at13 + 0, faE (1 + ((wrapN ((L.getD i13 (0, 0)).2)) % 14)) e13, a65, k65, c65), _, _, _, by have hq0 := of_decide_eq_true hc15; have hq1 := of_decide_eq_false hc20; have hq2 := of_decide_eq_false hc25; have hq3 := of_decide_eq_false hc37; have hq4 := of_decide_eq_false hc49; have hq5 := of_decide_eq_true hc61; have hq6 := of_decide_eq_false hc71; have := hi13_0; omega, rfl, s, (List.Sublist.cons₂ _ (List.Sublist.cons₂ _ List.Sublist.slnil)), by kernel_rfl, hle12, by have hq0 := of_decide_eq_true hc15; have hq1 := of_decide_eq_false hc20; have hq2 := of_decide_eq_false hc25; have hq3 := of_decide_eq_false hc37; have hq4 := of_decide_eq_false hc49; have hq5 := of_decide_eq_true hc61; have hq6 := of_decide_eq_false hc71; have := hi13_0; show i13 + 1 + (m13 - 1) = L.length; omega, by have hb1 := hi13_1; have hD1 := byD_le ((l.take 200).drop at13) e13; have hD2 := nuD_le ((l.take 200).drop at13) e13; have hD3 := teD_le ((l.take 200).drop at13) e13 (L.getD i13 (0, 0)).2; have hw9 := wrapN_lt (L.getD i13 (0, 0)).2; (simp only [List.length_drop, List.length_take] at hb1 hD1 hD2 hD3); have hbd := asl_bd hA (of_decide_eq_true hc15); show _ ≤ _; (try simp only [List.length_drop, List.length_take, List.length_append, List.length_cons, List.length_nil]); omega, bsl_eq h65_0 (by rw [List.drop_drop])⟩⟩
            ·
              rw [hc61]
              refine cond_false_rule (b := false) (by kernel_rfl) rfl ?_
              refine region_rule ?_
              refine ops_rule (C := []) [((φ10 0), .cells #[.slice a5 (List.length (l.take 200)) c5, .int .i64 ((at13 : Nat) : Int), .int .i64 ((e13 : Nat) : Int)] 74), (b9, .cells #[.slice a13 k13 c13, .int .i64 ((e13 : Nat) : Int)] 105)] [] 1 [] 0 (fun φ73 => [(33, .pointer (some ⟨b9, 0, none⟩))]) (fun φ73 => [((φ10 0), .cells #[.slice a5 (List.length (l.take 200)) c5, .int .i64 ((at13 : Nat) : Int), .int .i64 ((e13 : Nat) : Int)] 74), (b9, .cells #[.slice a13 k13 c13, .int .i64 ((e13 : Nat) : Int)] 105)]) (fun φ73 => []) s trivial (fun φ73 => by kernel_rfl) ?_
              intro φ73 w73 s
              refine callB_rule (b := (b9, .cells #[.slice a13 k13 c13, .int .i64 ((e13 : Nat) : Int)] 105)) (H := [((φ10 0), .cells #[.slice a5 (List.length (l.take 200)) c5, .int .i64 ((at13 : Nat) : Int), .int .i64 ((e13 : Nat) : Int)] 74), (b9, .cells #[.slice a13 k13 c13, .int .i64 ((e13 : Nat) : Int)] 105)]) (F := []) (Hr := [((φ10 0), .cells #[.slice a5 (List.length (l.take 200)) c5, .int .i64 ((at13 : Nat) : Int), .int .i64 ((e13 : Nat) : Int)] 74)]) (some 34) 1 s (by kernel_rfl) (by kernel_rfl) (endG_c (r := b9) (e := e13) hi13_2 (by simp only [List.length_drop, List.length_take]; omega)) (by kernel_rfl) ?_
              rintro v74 I74 w74 b74 le74 - h74 s
              replace hl := BSl.mono le74 hl
              replace hA := ASl.mono le74 hA
              replace h5_0 := BSl.mono le74 h5_0
              replace h8_0 := BSl.mono le74 h8_0
              replace hb9 := BSl.mono le74 hb9
              replace hle12 := leMono le74 hle12
              replace hi13_2 := BSl.mono le74 hi13_2
              replace hk18 := le74 _ _ hk18
              obtain ⟨a74, k74, c74, rfl, rfl, h74_0⟩ := h74
              refine ops_rule (C := []) [(b9, .cells #[.slice a74 k74 c74, .int .i64 ((enE ((l.take 200).drop at13) e13 : Nat) : Int)] 105), ((φ10 0), .cells #[.slice a5 (List.length (l.take 200)) c5, .int .i64 ((at13 : Nat) : Int), .int .i64 ((e13 : Nat) : Int)] 74)] [] 1 [] 0 (fun φ75 => [(35, .pointer (some ⟨(φ10 0), 0, none⟩))]) (fun φ75 => [(b9, .cells #[.slice a74 k74 c74, .int .i64 ((enE ((l.take 200).drop at13) e13 : Nat) : Int)] 105), ((φ10 0), .cells #[.slice a5 (List.length (l.take 200)) c5, .int .i64 ((at13 : Nat) : Int), .int .i64 ((e13 : Nat) : Int)] 74)]) (fun φ75 => []) s trivial (fun φ75 => by kernel_rfl) ?_
              intro φ75 w75 s
              refine callB_rule (b := ((φ10 0), .cells #[.slice a5 (List.length (l.take 200)) c5, .int .i64 ((at13 : Nat) : Int), .int .i64 ((e13 : Nat) : Int)] 74)) (H := [(b9, .cells #[.slice a74 k74 c74, .int .i64 ((enE ((l.take 200).drop at13) e13 : Nat) : Int)] 105), ((φ10 0), .cells #[.slice a5 (List.length (l.take 200)) c5, .int .i64 ((at13 : Nat) : Int), .int .i64 ((e13 : Nat) : Int)] 74)]) (F := []) (Hr := [(b9, .cells #[.slice a74 k74 c74, .int .i64 ((enE ((l.take 200).drop at13) e13 : Nat) : Int)] 105)]) (some 36) 1 s (by kernel_rfl) (by kernel_rfl) (refEnd_c (x := (φ10 0)) (at0 := at13) (e := e13) h5_0 (by simp only [List.length_drop, List.length_take]; omega) hi13_1) (by kernel_rfl) ?_
              rintro v76 I76 w76 b76 le76 - h76 s
              replace hl := BSl.mono le76 hl
              replace hA := ASl.mono le76 hA
              replace h5_0 := BSl.mono le76 h5_0
              replace h8_0 := BSl.mono le76 h8_0
              replace hb9 := BSl.mono le76 hb9
              replace hle12 := leMono le76 hle12
              replace hi13_2 := BSl.mono le76 hi13_2
              replace h74_0 := BSl.mono le76 h74_0
              replace hk18 := le76 _ _ hk18
              obtain ⟨rfl, rfl⟩ := h76
              refine ops_rule (C := []) [((φ10 0), .cells #[.slice a5 (List.length (l.take 200)) c5, .int .i64 ((at13 + 0 : Nat) : Int), .int .i64 ((enE ((l.take 200).drop at13) e13 : Nat) : Int)] 74), (b9, .cells #[.slice a74 k74 c74, .int .i64 ((enE ((l.take 200).drop at13) e13 : Nat) : Int)] 105)] [] 2 [] 0 (fun φ77 => [(9, .bool (((enE ((l.take 200).drop at13) e13 : Nat) : Int) == ((enE ((l.take 200).drop at13) e13 : Nat) : Int))), (37, .bool (((enE ((l.take 200).drop at13) e13 : Nat) : Int) == ((enE ((l.take 200).drop at13) e13 : Nat) : Int)))]) (fun φ77 => [((φ10 0), .cells #[.slice a5 (List.length (l.take 200)) c5, .int .i64 ((at13 + 0 : Nat) : Int), .int .i64 ((enE ((l.take 200).drop at13) e13 : Nat) : Int)] 74), (b9, .cells #[.slice a74 k74 c74, .int .i64 ((enE ((l.take 200).drop at13) e13 : Nat) : Int)] 105)]) (fun φ77 => []) s trivial (fun φ77 => by kernel_rfl) ?_
              intro φ77 w77 s
              rw [(nat_eql (a := (enE ((l.take 200).drop at13) e13)) (b := (enE ((l.take 200).drop at13) e13))).trans (decide_eq_true rfl)]
              refine ops_done (by kernel_rfl) ?_
              refine wp_seq ?_
              have hz78 := St.none0 s (g := b9) (o := .cells #[.slice a74 k74 c74, .int .i64 ((enE ((l.take 200).drop at13) e13 : Nat) : Int)] 105) (by simp)
              have hT78 := IM.Le.refl I76
              have hlK78 := hl
              have hAK78 := hA
              have h5_0K78 := h5_0
              have h8_0K78 := h8_0
              have hb9K78 := hb9
              have hle12K78 := hle12
              have hi13_2K78 := hi13_2
              have h74_0K78 := h74_0
              have hk18K78 := hk18
              obtain ⟨I79, le79, hk79, s⟩ := s.freezeAt 1 b9 (.cells #[.slice a74 k74 c74, .int .i64 ((enE ((l.take 200).drop at13) e13 : Nat) : Int)] 105) [((φ10 0), .cells #[.slice a5 (List.length (l.take 200)) c5, .int .i64 ((at13 + 0 : Nat) : Int), .int .i64 ((enE ((l.take 200).drop at13) e13 : Nat) : Int)] 74)] (by kernel_rfl) (by kernel_rfl)
              replace hl := BSl.mono le79 hl
              replace hA := ASl.mono le79 hA
              replace h5_0 := BSl.mono le79 h5_0
              replace h8_0 := BSl.mono le79 h8_0
              replace hb9 := BSl.mono le79 hb9
              replace hle12 := leMono le79 hle12
              replace hi13_2 := BSl.mono le79 hi13_2
              replace h74_0 := BSl.mono le79 h74_0
              replace hT78 := leMono le79 hT78
              replace hk18 := le79 _ _ hk18
              refine draw_rule (C := []) ⟨(fun φ80 xs80 => [.look 0 [] [], .look 0 [] [], .look 0 [] [], .look 0 [] [], .call 55 #[.pointer (some ⟨b9, 0, none⟩)], .look 0 [] [], .look 0 [] [], .look 0 [] [], .look 0 [.o 0] [(φ10 0)], .sub 0 [] [] (.bool (((enE ((l.take 200).drop at13) e13 : Nat) : Int) != ((enE ((l.take 200).drop at13) e13 : Nat) : Int))), .look 0 [] [], .look 0 [] [], .look 0 [] [], .call 56 #[.pointer (some ⟨b9, 0, none⟩)], .look 0 [] [], .look 0 [] [], .look 0 [] [], .look 0 [] [], .look 0 [] [], .look 0 [.o 0] [(φ10 0)], .sub 0 [] [] (.int .i64 (IntKind.wrap .i64 ((((List.length (l.take 200)) : Nat) : Int) - ((at13 + 0 : Nat) : Int)))), .sub 0 [] [] (.bool (((k74 : Nat) : Int) != (((List.length (l.take 200)) - (at13 + 0) : Nat) : Int))), .look 0 [] []]), (fun φ80 xs80 => [.bool true, .bool false, .bool false, .pointer (some ⟨b9, 0, none⟩), .int .i64 ((enE ((l.take 200).drop at13) e13 : Nat) : Int), .pointer (some ⟨(φ10 0), 0, none⟩), .pointer (some ⟨(φ10 0), 0, none⟩), .pointer (some ⟨(φ10 0), 2, none⟩), .int .i64 ((enE ((l.take 200).drop at13) e13 : Nat) : Int), .bool false, .bool false, .bool false, .pointer (some ⟨b9, 0, none⟩), .int .i64 ((k74 : Nat) : Int), .slice a5 (List.length (l.take 200)) c5, .int .i64 (((List.length (l.take 200)) : Nat) : Int), .pointer (some ⟨(φ10 0), 0, none⟩), .pointer (some ⟨(φ10 0), 0, none⟩), .pointer (some ⟨(φ10 0), 1, none⟩), .int .i64 ((at13 + 0 : Nat) : Int), .int .i64 (((List.length (l.take 200)) - (at13 + 0) : Nat) : Int), .bool (decide (k74 ≠ ((List.length (l.take 200)) - (at13 + 0)))), .bool (decide (k74 ≠ ((List.length (l.take 200)) - (at13 + 0))))]), (fun φ80 xs80 => [[((φ10 0), .cells #[.slice a5 (List.length (l.take 200)) c5, .int .i64 ((at13 + 0 : Nat) : Int), .int .i64 ((enE ((l.take 200).drop at13) e13 : Nat) : Int)] 74)]]), (fun φ80 xs80 => [[default, default, default, default, default, default, default, default, default, default, default, default, default, default, default, default, default, default, default, default, default, default, default]]), [], [1, 1, 1, 1, 3, 1, 1, 1, 1, 5, 1, 1, 1, 3, 1, 1, 1, 1, 1, 1, 5, 5, 1]⟩ (fun j => ([MP.any, MP.any, MP.any, MP.any, MP.any, MP.any, MP.any, MP.any, MP.any, MP.any, MP.any, MP.any, MP.any, MP.any, MP.any, MP.any, MP.any, MP.any, MP.any, MP.any, MP.any, MP.any, MP.any] : List MP).getD j MP.any) [4, 13] [9, 20, 21] [] (fun φ80 xs80 => []) (fun φ80 xs80 => [(77, .bool true), (78, .bool false), (79, .bool false), (80, .pointer (some ⟨b9, 0, none⟩)), (81, .int .i64 ((enE ((l.take 200).drop at13) e13 : Nat) : Int)), (82, .pointer (some ⟨(φ10 0), 0, none⟩)), (83, .pointer (some ⟨(φ10 0), 0, none⟩)), (84, .pointer (some ⟨(φ10 0), 2, none⟩)), (85, .int .i64 ((enE ((l.take 200).drop at13) e13 : Nat) : Int)), (86, .bool false), (87, .bool false), (88, .bool false), (89, .pointer (some ⟨b9, 0, none⟩)), (90, .int .i64 ((k74 : Nat) : Int)), (91, .slice a5 (List.length (l.take 200)) c5), (92, .int .i64 (((List.length (l.take 200)) : Nat) : Int)), (93, .pointer (some ⟨(φ10 0), 0, none⟩)), (94, .pointer (some ⟨(φ10 0), 0, none⟩)), (95, .pointer (some ⟨(φ10 0), 1, none⟩)), (96, .int .i64 ((at13 + 0 : Nat) : Int)), (97, .int .i64 (((List.length (l.take 200)) - (at13 + 0) : Nat) : Int)), (98, .bool (decide (k74 ≠ ((List.length (l.take 200)) - (at13 + 0))))), (99, .bool (decide (k74 ≠ ((List.length (l.take 200)) - (at13 + 0)))))]) (fun φ80 xs80 => [((φ10 0), .cells #[.slice a5 (List.length (l.take 200)) c5, .int .i64 ((at13 + 0 : Nat) : Int), .int .i64 ((enE ((l.take 200).drop at13) e13 : Nat) : Int)] 74)]) s trivial (by kernel_rfl) (by kernel_rfl) (fun _ _ => by kernel_rfl) (fun _ _ => by kernel_rfl) ⟨fun _ _ => by kernel_rfl, fun _ _ => by kernel_rfl, fun _ _ => by kernel_rfl, fun _ _ => by kernel_rfl⟩ (fun _ _ _ => by kernel_rfl) (fun _ _ => by kernel_rfl) (fun _ _ => by kernel_rfl) (fun _ _ => by kernel_rfl) (fun _ _ => by kernel_rfl) (fun _ _ => by kernel_rfl) ⟨kcast (A := ∀ (φ80 : Nat → Nat) (xs80 : Xs), (.bool (((enE ((l.take 200).drop at13) e13 : Nat) : Int) != ((enE ((l.take 200).drop at13) e13 : Nat) : Int)) : Value) = .bool false) (by kernel_rfl) (fun φ80 xs80 => congrArg Value.bool (((nat_neq (a := (enE ((l.take 200).drop at13) e13)) (b := (enE ((l.take 200).drop at13) e13))).trans (decide_eq_false (fun q => q rfl))))), ⟨kcast (A := ∀ (φ80 : Nat → Nat) (xs80 : Xs), (.int .i64 (IntKind.wrap .i64 ((((List.length (l.take 200)) : Nat) : Int) - ((at13 + 0 : Nat) : Int))) : Value) = .int .i64 (((List.length (l.take 200)) - (at13 + 0) : Nat) : Int)) (by kernel_rfl) (fun φ80 xs80 => congrArg (Value.int .i64) ((nat_subI (a := (List.length (l.take 200))) (b := (at13 + 0)) (by have hb1 := hi13_1; have hD1 := byD_le ((l.take 200).drop at13) e13; have hD2 := nuD_le ((l.take 200).drop at13) e13; have hD3 := teD_le ((l.take 200).drop at13) e13 (L.getD i13 (0, 0)).2; have hw9 := wrapN_lt (L.getD i13 (0, 0)).2; (simp only [List.length_drop, List.length_take] at hb1 hD1 hD2 hD3); have hbd := asl_bd hA (of_decide_eq_true hc15); have hq0 := of_decide_eq_true hc15; have hq1 := of_decide_eq_false hc20; have hq2 := of_decide_eq_false hc25; have hq3 := of_decide_eq_false hc37; have hq4 := of_decide_eq_false hc49; have hq5 := of_decide_eq_false hc61; (try simp only [List.length_drop, List.length_take, List.length_append, List.length_cons, List.length_nil]); omega) (by have hb1 := hi13_1; have hD1 := byD_le ((l.take 200).drop at13) e13; have hD2 := nuD_le ((l.take 200).drop at13) e13; have hD3 := teD_le ((l.take 200).drop at13) e13 (L.getD i13 (0, 0)).2; have hw9 := wrapN_lt (L.getD i13 (0, 0)).2; (simp only [List.length_drop, List.length_take] at hb1 hD1 hD2 hD3); have hbd := asl_bd hA (of_decide_eq_true hc15); have hq0 := of_decide_eq_true hc15; have hq1 := of_decide_eq_false hc20; have hq2 := of_decide_eq_false hc25; have hq3 := of_decide_eq_false hc37; have hq4 := of_decide_eq_false hc49; have hq5 := of_decide_eq_false hc61; (try simp only [List.length_drop, List.length_take, List.length_append, List.length_cons, List.length_nil]); omega)))), ⟨kcast (A := ∀ (φ80 : Nat → Nat) (xs80 : Xs), (.bool (((k74 : Nat) : Int) != (((List.length (l.take 200)) - (at13 + 0) : Nat) : Int)) : Value) = .bool (decide (k74 ≠ ((List.length (l.take 200)) - (at13 + 0))))) (by kernel_rfl) (fun φ80 xs80 => congrArg Value.bool ((nat_neq (a := k74) (b := ((List.length (l.take 200)) - (at13 + 0)))))), trivial⟩⟩⟩ trivial (by kernel_rfl) ⟨?c80_4, ?c80_13, trivial⟩ ?k80
              case c80_4 =>
                refine kcast (A := ∀ (φ80 : Nat → Nat) (xs80 : Xs) (J4_80 : IM), I79.Le J4_80 → Fun Try.prog 55 #[.pointer (some ⟨b9, 0, none⟩)] J4_80 (fun v J' => ∃ x : UX, v = .int .i64 ((enE ((l.take 200).drop at13) e13 : Nat) : Int) ∧ (True))) (by kernel_rfl) ?_
                intro φ80 xs80 J4_80 leJ
                have hk79 := leJ _ _ hk79
                exact Fun.mono (errF_c hk79) (fun v J' _ h => ⟨UX.d, h, trivial⟩)
              case c80_13 =>
                refine kcast (A := ∀ (φ80 : Nat → Nat) (xs80 : Xs) (J13_80 : IM), I79.Le J13_80 → (True) → Fun Try.prog 56 #[.pointer (some ⟨b9, 0, none⟩)] J13_80 (fun v J' => ∃ x : UX, v = .int .i64 ((k74 : Nat) : Int) ∧ (True))) (by kernel_rfl) ?_
                intro φ80 xs80 J13_80 leJ
                rintro _
                have hk79 := leJ _ _ hk79
                exact Fun.mono (leftF_c hk79) (fun v J' _ h => ⟨UX.d, h, trivial⟩)
              case k80 =>
                rintro φ80 xs80 I80 w80 le80 s _ _
                replace hl := BSl.mono le80 hl
                replace hA := ASl.mono le80 hA
                replace h5_0 := BSl.mono le80 h5_0
                replace h8_0 := BSl.mono le80 h8_0
                replace hb9 := BSl.mono le80 hb9
                replace hle12 := leMono le80 hle12
                replace hi13_2 := BSl.mono le80 hi13_2
                replace h74_0 := BSl.mono le80 h74_0
                replace hT78 := leMono le80 hT78
                replace hk18 := le80 _ _ hk18
                replace hk79 := le80 _ _ hk79
                replace s := St.thaw s hk79 hz78.2.1 hz78.2.2
                have leT78 := IM.le_del (g := b9) hT78 hz78.1
                generalize IM.del I80 b9 = J78 at s leT78
                replace hl := BSl.mono leT78 hlK78
                replace hA := ASl.mono leT78 hAK78
                replace h5_0 := BSl.mono leT78 h5_0K78
                replace h8_0 := BSl.mono leT78 h8_0K78
                replace hb9 := BSl.mono leT78 hb9K78
                replace hle12 := leMono leT78 hle12K78
                replace hi13_2 := BSl.mono leT78 hi13_2K78
                replace h74_0 := BSl.mono leT78 h74_0K78
                replace hk18 := leT78 _ _ hk18K78
                rcases Bool.eq_false_or_eq_true (decide (k74 ≠ ((List.length (l.take 200)) - (at13 + 0)))) with hc81 | hc81
                ·
                  exact absurd (of_decide_eq_true hc81) (by have hk9 := (h74_0).cap.1; have hb1 := hi13_1; have hD1 := byD_le ((l.take 200).drop at13) e13; have hD2 := nuD_le ((l.take 200).drop at13) e13; have hD3 := teD_le ((l.take 200).drop at13) e13 (L.getD i13 (0, 0)).2; have hw9 := wrapN_lt (L.getD i13 (0, 0)).2; (simp only [List.length_drop, List.length_take] at hb1 hD1 hD2 hD3); have hbd := asl_bd hA (of_decide_eq_true hc15); simp only [List.length_drop, List.length_take, List.length_append, List.length_cons, List.length_nil] at hk9 ⊢; omega)
                ·
                  rw [hc81]
                  refine cond_false_rule (b := false) (by kernel_rfl) rfl ?_
                  refine wp_skip ?_
                  refine region_rule ?_
                  refine ops_rule (C := []) [((φ10 0), .cells #[.slice a5 (List.length (l.take 200)) c5, .int .i64 ((at13 + 0 : Nat) : Int), .int .i64 ((enE ((l.take 200).drop at13) e13 : Nat) : Int)] 74), (b9, .cells #[.slice a74 k74 c74, .int .i64 ((enE ((l.take 200).drop at13) e13 : Nat) : Int)] 105)] [] 2 [] 0 (fun φ82 => [(23, .int .i64 (IntKind.wrap .i64 (((i13 : Nat) : Int) + ((1 : Nat) : Int)))), (100, .int .i64 (IntKind.wrap .i64 (((i13 : Nat) : Int) + ((1 : Nat) : Int))))]) (fun φ82 => [((φ10 0), .cells #[.slice a5 (List.length (l.take 200)) c5, .int .i64 ((at13 + 0 : Nat) : Int), .int .i64 ((enE ((l.take 200).drop at13) e13 : Nat) : Int)] 74), (b9, .cells #[.slice a74 k74 c74, .int .i64 ((enE ((l.take 200).drop at13) e13 : Nat) : Int)] 105)]) (fun φ82 => []) s trivial (fun φ82 => by kernel_rfl) ?_
                  intro φ82 w82 s
                  rw [nat_addI (a := i13) (b := 1) (by have hb1 := hi13_1; have hD1 := byD_le ((l.take 200).drop at13) e13; have hD2 := nuD_le ((l.take 200).drop at13) e13; have hD3 := teD_le ((l.take 200).drop at13) e13 (L.getD i13 (0, 0)).2; have hw9 := wrapN_lt (L.getD i13 (0, 0)).2; (simp only [List.length_drop, List.length_take] at hb1 hD1 hD2 hD3); have hbd := asl_bd hA (of_decide_eq_true hc15); have hq0 := of_decide_eq_true hc15; have hq1 := of_decide_eq_false hc20; have hq2 := of_decide_eq_false hc25; have hq3 := of_decide_eq_false hc37; have hq4 := of_decide_eq_false hc49; have hq5 := of_decide_eq_false hc61; have hq6 := of_decide_eq_false hc81; omega)]
                  refine ops_done (by kernel_rfl) ?_
                  exact ⟨⟨m13 - 1, (i13 + 1, at13 + 0, enE ((l.take 200).drop at13) e13, a74, k74, c74), _, _, _, by have hq0 := of_decide_eq_true hc15; have hq1 := of_decide_eq_false hc20; have hq2 := of_decide_eq_false hc25; have hq3 := of_decide_eq_false hc37; have hq4 := of_decide_eq_false hc49; have hq5 := of_decide_eq_false hc61; have hq6 := of_decide_eq_false hc81; have := hi13_0; omega, rfl, s, (List.Sublist.cons₂ _ (List.Sublist.cons₂ _ List.Sublist.slnil)), by kernel_rfl, hle12, by have hq0 := of_decide_eq_true hc15; have hq1 := of_decide_eq_false hc20; have hq2 := of_decide_eq_false hc25; have hq3 := of_decide_eq_false hc37; have hq4 := of_decide_eq_false hc49; have hq5 := of_decide_eq_false hc61; have hq6 := of_decide_eq_false hc81; have := hi13_0; show i13 + 1 + (m13 - 1) = L.length; omega, by have hb1 := hi13_1; have hD1 := byD_le ((l.take 200).drop at13) e13; have hD2 := nuD_le ((l.take 200).drop at13) e13; have hD3 := teD_le ((l.take 200).drop at13) e13 (L.getD i13 (0, 0)).2; have hw9 := wrapN_lt (L.getD i13 (0, 0)).2; (simp only [List.length_drop, List.length_take] at hb1 hD1 hD2 hD3); have hbd := asl_bd hA (of_decide_eq_true hc15); show _ ≤ _; (try simp only [List.length_drop, List.length_take, List.length_append, List.length_cons, List.length_nil]); omega, bsl_eq h74_0 (by rw [List.drop_drop])⟩⟩
  ·
    rw [hc15]
    refine cond_false_rule (b := false) (by kernel_rfl) rfl ?_
    refine wp_exit ?_
    refine wp_seq ?_
    refine region_rule ?_
    refine ops_rule (C := []) [((φ10 0), .cells #[.slice a5 (List.length (l.take 200)) c5, .int .i64 ((at13 : Nat) : Int), .int .i64 ((e13 : Nat) : Int)] 74), (b9, .cells #[.slice a13 k13 c13, .int .i64 ((e13 : Nat) : Int)] 105)] [] 1 [] 0 (fun φ83 => [(4, .bool true)]) (fun φ83 => [((φ10 0), .cells #[.slice a5 (List.length (l.take 200)) c5, .int .i64 ((at13 : Nat) : Int), .int .i64 ((e13 : Nat) : Int)] 74), (b9, .cells #[.slice a13 k13 c13, .int .i64 ((e13 : Nat) : Int)] 105)]) (fun φ83 => []) s trivial (fun φ83 => by kernel_rfl) ?_
    intro φ83 w83 s
    refine ops_done (by kernel_rfl) ?_
    refine wp_ret ?_
    refine ret_rule (C := []) [((φ10 0), .cells #[.slice a5 (List.length (l.take 200)) c5, .int .i64 ((at13 : Nat) : Int), .int .i64 ((e13 : Nat) : Int)] 74), (b9, .cells #[.slice a13 k13 c13, .int .i64 ((e13 : Nat) : Int)] 105)] [] (.bool true) [] [] s trivial (by kernel_rfl) ?_
    exact ⟨_, _, _, rfl, s, rfl⟩

end Go.Proofs.Ytpnlaeapnokipaa

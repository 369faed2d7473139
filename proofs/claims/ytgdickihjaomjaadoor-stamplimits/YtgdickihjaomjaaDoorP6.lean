/- StampLimits. -/
import Derived.Test.YtgdickihjaomjaaDoorP5
set_option linter.all false
set_option maxRecDepth 100000
namespace Go.Proofs.YtgdickihjaomjaaDoor
open Go.RowKit Go.Sep

theorem depth16_c {I : IM} {t : E} {b : Nat} {p : Option Addr} (h : ERep I t b p) (hd : t.depth = 16) : Fun Tryd.prog 35 #[evv b p] I (fun v J => v = .int .i64 16) :=
  (depth_c h).mono fun v J _ hv => by rw [hv, hd]; rfl
theorem max1_c {I : IM} {t : E} {b : Nat} {p : Option Addr} (h : ERep I t b p) (hd : t.top = 1) : Fun Tryd.prog 34 #[evv b p] I (fun v J => v = .int .u64 1) :=
  (max_c h (by omega)).mono fun v J _ hv => by rw [hv, hd]; rfl
theorem leMono {A I J : IM} (le : I.Le J) (h : A.Le I) : A.Le J := h.trans le

set_option maxHeartbeats 4000000 in
theorem stampLimits_c {I : IM} (hT : Tab I) {n turns : Nat} (hn : n < 256) (hturns : turns < 65536) : Fun Tryd.prog 13 #[.int .u8 ((n : Nat) : Int), .int .u16 ((turns : Nat) : Int)] I (fun v J => v = .bool true) := by
  refine enter_rule 114 [(0, .int .u8 ((n : Nat) : Int)), (1, .int .u16 ((turns : Nat) : Int))] Tryd.func13 rfl (by kernel_rfl) ?_
  intro w s
  refine wp_seq ?_
  refine region_rule ?_
  refine ops_rule (C := []) [] [] 1 [] 0 (fun φ1 => [(4, .bool false)]) (fun φ1 => []) (fun φ1 => []) s trivial (fun φ1 => by kernel_rfl) ?_
  intro φ1 w1 s
  refine ops_done (by kernel_rfl) ?_
  refine wp_seq ?_
  refine wp_seq ?_
  refine region_rule ?_
  refine call_rule (some 17) s (awakeS_c hT) (by kernel_rfl) ?_
  intro v2 I2 w2 le2 h2 s
  replace hT := Tab.mono le2 hT
  obtain rfl := h2
  refine ops_rule (C := []) [] [] 1 [] 0 (fun φ3 => [(18, .bool false)]) (fun φ3 => []) (fun φ3 => []) s trivial (fun φ3 => by kernel_rfl) ?_
  intro φ3 w3 s
  refine ops_done (by kernel_rfl) ?_
  refine cond_false_rule (b := false) (by kernel_rfl) rfl ?_
  refine wp_skip ?_
  refine wp_seq ?_
  refine region_rule ?_
  refine ops_rule (C := []) [] [] 4 [] 0 (fun φ4 => [(23, .int .u64 (IntKind.wrap .u64 (((1048576 : Nat) : Int) - (IntKind.wrap .u64 (Int.tmod ((n : Nat) : Int) ((3 : Nat) : Int)))))), (22, .int .u64 (IntKind.wrap .u64 (Int.tmod ((n : Nat) : Int) ((3 : Nat) : Int)))), (21, .int .u8 (Int.tmod ((n : Nat) : Int) ((3 : Nat) : Int))), (20, .int .u8 ((n : Nat) : Int))]) (fun φ4 => []) (fun φ4 => []) s trivial (fun φ4 => by kernel_rfl) ?_
  intro φ4 w4 s
  rw [nat_rem (a := n) (b := 3)]
  rw [nat_wrapU (a := (n % 3)) (by omega)]
  rw [nat_subU (a := 1048576) (b := (n % 3)) (by omega) (by omega)]
  refine call_rule (some 24) s (leafOk_c (n := (1048576 - (n % 3))) (by omega)) (by kernel_rfl) ?_
  intro v5 I5 w5 le5 h5 s
  replace hT := Tab.mono le5 hT
  obtain rfl := h5
  refine ops_rule (C := []) [] [] 6 [.o 0, .o 0] 1 (fun φ6 => [(6, .int .i64 0), (5, .pointer (some ⟨(φ6 0), 0, none⟩)), (26, .int .i64 0), (25, .agg #[.int .u64 ((1048576 - (n % 3) : Nat) : Int), .pointer none]), (19, .tuple #[.agg #[.int .u64 ((1048576 - (n % 3) : Nat) : Int), .pointer none], .int .i64 0])]) (fun φ6 => [((φ6 0), .cells #[.int .u64 ((1048576 - (n % 3) : Nat) : Int), .pointer none] 27)]) (fun φ6 => [(φ6 0), (φ6 0)]) s trivial (fun φ6 => by kernel_rfl) ?_
  intro φ6 w6 s
  refine ops_done (by kernel_rfl) ?_
  refine wp_seq ?_
  refine draw_rule (C := []) ⟨(fun φ7 xs7 => [.call 66 #[], .look 0 [.o 0, .o 0] [(φ6 0), (φ6 0)], .look 0 [] [], .new, .store 0 [.o 1, .o 1, .o 1, .o 1] [(φ7 3), (φ7 3), (φ7 3), (φ7 3)]]), (fun φ7 xs7 => [.agg #[.bool true, .pointer none], .agg #[.int .u64 ((1048576 - (n % 3) : Nat) : Int), .pointer none], .agg #[.bool true, .pointer none, .int .u64 ((1048576 - (n % 3) : Nat) : Int), .pointer none], .pointer (some ⟨(φ7 3), 0, none⟩), undef]), (fun φ7 xs7 => [[((φ6 0), .cells #[.int .u64 ((1048576 - (n % 3) : Nat) : Int), .pointer none] 27)], [((φ6 0), .cells #[.int .u64 ((1048576 - (n % 3) : Nat) : Int), .pointer none] 27)]]), (fun φ7 xs7 => [[default, default, default, .cells #[.bool false, .pointer none, .int .u64 0, .pointer none] 64, default], [default, default, default, .cells #[.bool true, .pointer none, .int .u64 ((1048576 - (n % 3) : Nat) : Int), .pointer none] 64, default]]), [4], [3, 1, 1, 2, 4]⟩ (fun j => ([MP.any, MP.any, MP.any, MP.any, MP.any] : List MP).getD j MP.any) [0] [] (fun φ7 xs7 => [(27, .agg #[.bool true, .pointer none]), (28, .agg #[.int .u64 ((1048576 - (n % 3) : Nat) : Int), .pointer none]), (29, .agg #[.bool true, .pointer none, .int .u64 ((1048576 - (n % 3) : Nat) : Int), .pointer none]), (7, .pointer (some ⟨(φ7 3), 0, none⟩))]) (fun φ7 xs7 => [((φ6 0), .cells #[.int .u64 ((1048576 - (n % 3) : Nat) : Int), .pointer none] 27), ((φ7 3), .cells #[.bool true, .pointer none, .int .u64 ((1048576 - (n % 3) : Nat) : Int), .pointer none] 64)]) s trivial (by kernel_rfl) (by kernel_rfl) (fun _ _ => by kernel_rfl) (fun _ _ => by kernel_rfl) ⟨fun _ _ => by kernel_rfl, fun _ _ => by kernel_rfl, fun _ _ => by kernel_rfl, fun _ _ => by kernel_rfl⟩ (fun _ _ _ => by kernel_rfl) (fun _ _ => by kernel_rfl) (fun _ _ => by kernel_rfl) (fun _ _ => by kernel_rfl) (fun _ _ => by kernel_rfl) trivial ⟨?c7_0, trivial⟩ ?k7
  case c7_0 =>
    refine kcast (A := ∀ (φ7 : Nat → Nat) (xs7 : Xs) (J0_7 : IM), I5.Le J0_7 → Fun Tryd.prog 66 #[] J0_7 (fun v J' => ∃ x : UX, v = .agg #[.bool true, .pointer none] ∧ (True))) (by kernel_rfl) ?_
    intro φ7 xs7 J0_7 leJ
    exact Fun.mono (tone_c) (fun v J' _ h => ⟨UX.d, h, trivial⟩)
  case k7 =>
    rintro φ7 xs7 I7 w7 le7 s _
    replace hT := Tab.mono le7 hT
    refine wp_seq ?_
    refine wp_seq ?_
    refine region_rule ?_
    refine ops_rule (C := []) [((φ6 0), .cells #[.int .u64 ((1048576 - (n % 3) : Nat) : Int), .pointer none] 27), ((φ7 3), .cells #[.bool true, .pointer none, .int .u64 ((1048576 - (n % 3) : Nat) : Int), .pointer none] 64)] [] 1 [] 0 (fun φ8 => [(30, .int .i64 0)]) (fun φ8 => [((φ6 0), .cells #[.int .u64 ((1048576 - (n % 3) : Nat) : Int), .pointer none] 27), ((φ7 3), .cells #[.bool true, .pointer none, .int .u64 ((1048576 - (n % 3) : Nat) : Int), .pointer none] 64)]) (fun φ8 => []) s trivial (fun φ8 => by kernel_rfl) ?_
    intro φ8 w8 s
    refine ops_done (by kernel_rfl) ?_
    refine wp_block ?_
    have hle9 := IM.Le.refl I7
    refine loop_rule (fun (x : Nat × Nat) => [(0, .int .u8 ((n : Nat) : Int)), (1, .int .u16 ((turns : Nat) : Int)), (4, .bool false), (7, .pointer (some ⟨(φ7 3), 0, none⟩)), (30, .int .i64 ((x.1 : Nat) : Int))]) (fun (x : Nat × Nat) => [((φ7 3), .cells #[.bool true, .pointer none, .int .u64 ((x.2 : Nat) : Int), .pointer none] 64)]) (fun m (x : Nat × Nat) J => IM.Le I7 J ∧ x.1 + m = 4 ∧ x.2 = 1048576 - n % 3 + min x.1 (n % 3)) 4 (0, 1048576 - (n % 3)) s (by kernel_rfl) (List.Sublist.cons _ (List.Sublist.cons₂ _ List.Sublist.slnil)) ⟨IM.Le.refl _, rfl, by simp only; omega⟩ ?_
    rintro m ⟨k, X⟩ I10 w10 evj s ⟨le10, hm, hX⟩
    dsimp only at s hm hX ⊢
    replace hT := Tab.mono le10 hT
    replace hle9 := leMono le10 hle9
    rcases Bool.eq_false_or_eq_true (decide (k < (n % 3))) with hc11 | hc11
    ·
      refine wp_seq ?_
      refine region_rule ?_
      refine ops_rule (C := []) [((φ7 3), .cells #[.bool true, .pointer none, .int .u64 ((X : Nat) : Int), .pointer none] 64)] [] 1 [] 0 (fun φ12 => [(31, .bool (decide (((k : Nat) : Int) < ((4 : Nat) : Int))))]) (fun φ12 => [((φ7 3), .cells #[.bool true, .pointer none, .int .u64 ((X : Nat) : Int), .pointer none] 64)]) (fun φ12 => []) s trivial (fun φ12 => by kernel_rfl) ?_
      intro φ12 w12 s
      rw [nat_lss (a := k) (b := 4)]
      refine ops_done (by kernel_rfl) ?_
      refine wp_seq ?_
      rcases Bool.eq_false_or_eq_true (decide (k < 4)) with hc13 | hc13
      ·
        rw [hc13]
        refine cond_true_rule (b := true) (by kernel_rfl) rfl ?_
        refine wp_skip ?_
        refine wp_seq ?_
        refine wp_block ?_
        refine wp_seq ?_
        refine region_rule ?_
        refine ops_rule (C := []) [((φ7 3), .cells #[.bool true, .pointer none, .int .u64 ((X : Nat) : Int), .pointer none] 64)] [] 2 [] 0 (fun φ14 => [(8, .int .i64 ((k : Nat) : Int)), (32, .int .i64 ((k : Nat) : Int))]) (fun φ14 => [((φ7 3), .cells #[.bool true, .pointer none, .int .u64 ((X : Nat) : Int), .pointer none] 64)]) (fun φ14 => []) s trivial (fun φ14 => by kernel_rfl) ?_
        intro φ14 w14 s
        refine ops_done (by kernel_rfl) ?_
        refine wp_seq ?_
        refine region_rule ?_
        refine ops_rule (C := []) [((φ7 3), .cells #[.bool true, .pointer none, .int .u64 ((X : Nat) : Int), .pointer none] 64)] [] 1 [.o 0, .o 0, .o 0, .o 0] 0 (fun φ15 => [(34, .agg #[.bool true, .pointer none, .int .u64 ((X : Nat) : Int), .pointer none])]) (fun φ15 => [((φ7 3), .cells #[.bool true, .pointer none, .int .u64 ((X : Nat) : Int), .pointer none] 64)]) (fun φ15 => [(φ7 3), (φ7 3), (φ7 3), (φ7 3)]) s trivial (fun φ15 => by kernel_rfl) ?_
        intro φ15 w15 s
        refine call_rule (some 35) s (tickOk_c (X := X) (by have := of_decide_eq_true hc11; omega)) (by kernel_rfl) ?_
        intro v16 I16 w16 le16 h16 s
        replace hT := Tab.mono le16 hT
        replace hle9 := leMono le16 hle9
        obtain rfl := h16
        refine ops_rule (C := []) [((φ7 3), .cells #[.bool true, .pointer none, .int .u64 ((X : Nat) : Int), .pointer none] 64)] [] 6 [.o 1, .o 1, .o 1, .o 1] 1 (fun φ17 => [(10, .int .i64 0), (9, .pointer (some ⟨(φ17 0), 0, none⟩)), (37, .int .i64 0), (36, .agg #[.bool true, .pointer none, .int .u64 ((X + 1 : Nat) : Int), .pointer none]), (33, .tuple #[.agg #[.bool true, .pointer none, .int .u64 ((X + 1 : Nat) : Int), .pointer none], .int .i64 0])]) (fun φ17 => [((φ7 3), .cells #[.bool true, .pointer none, .int .u64 ((X : Nat) : Int), .pointer none] 64), ((φ17 0), .cells #[.bool true, .pointer none, .int .u64 ((X + 1 : Nat) : Int), .pointer none] 64)]) (fun φ17 => [(φ17 0), (φ17 0), (φ17 0), (φ17 0)]) s trivial (fun φ17 => by kernel_rfl) ?_
        intro φ17 w17 s
        refine ops_done (by kernel_rfl) ?_
        refine wp_seq ?_
        refine wp_seq ?_
        refine region_rule ?_
        refine ops_rule (C := []) [((φ7 3), .cells #[.bool true, .pointer none, .int .u64 ((X : Nat) : Int), .pointer none] 64), ((φ17 0), .cells #[.bool true, .pointer none, .int .u64 ((X + 1 : Nat) : Int), .pointer none] 64)] [] 7 [] 0 (fun φ18 => [(44, .bool (decide (((k : Nat) : Int) < (IntKind.wrap .i64 (Int.tmod ((n : Nat) : Int) ((3 : Nat) : Int)))))), (43, .int .i64 (IntKind.wrap .i64 (Int.tmod ((n : Nat) : Int) ((3 : Nat) : Int)))), (42, .int .u8 (Int.tmod ((n : Nat) : Int) ((3 : Nat) : Int))), (41, .int .u8 ((n : Nat) : Int)), (40, .int .i64 ((k : Nat) : Int)), (39, .bool true), (38, .int .i64 0)]) (fun φ18 => [((φ7 3), .cells #[.bool true, .pointer none, .int .u64 ((X : Nat) : Int), .pointer none] 64), ((φ17 0), .cells #[.bool true, .pointer none, .int .u64 ((X + 1 : Nat) : Int), .pointer none] 64)]) (fun φ18 => []) s trivial (fun φ18 => by kernel_rfl) ?_
        intro φ18 w18 s
        rw [nat_rem (a := n) (b := 3)]
        rw [nat_wrapI (a := (n % 3)) (by omega)]
        rw [nat_lss (a := k) (b := (n % 3))]
        rw [hc11]
        rcases Bool.eq_false_or_eq_true (decide (((k : Nat) : Int) < (IntKind.wrap .i64 (Int.tmod ((n : Nat) : Int) ((3 : Nat) : Int))))) with hc19 | hc19
        ·
          refine ops_rule (C := []) [((φ7 3), .cells #[.bool true, .pointer none, .int .u64 ((X : Nat) : Int), .pointer none] 64), ((φ17 0), .cells #[.bool true, .pointer none, .int .u64 ((X + 1 : Nat) : Int), .pointer none] 64)] [] 15 [] 0 (fun φ20 => [(59, .bool false), (58, .bool false), (57, undef), (56, undef), (55, undef), (54, undef), (53, undef), (52, undef), (51, undef), (50, undef), (49, .bool false), (48, .bool false), (47, .int .i64 0), (46, .bool false), (45, .bool false)]) (fun φ20 => [((φ7 3), .cells #[.bool true, .pointer none, .int .u64 ((X : Nat) : Int), .pointer none] 64), ((φ17 0), .cells #[.bool true, .pointer none, .int .u64 ((X + 1 : Nat) : Int), .pointer none] 64)]) (fun φ20 => []) s trivial (fun φ20 => by kernel_rfl) ?_
          intro φ20 w20 s
          refine ops_done (by kernel_rfl) ?_
          refine cond_false_rule (b := false) (by kernel_rfl) rfl ?_
          refine wp_skip ?_
          refine region_rule ?_
          refine ops_rule (C := []) [((φ7 3), .cells #[.bool true, .pointer none, .int .u64 ((X : Nat) : Int), .pointer none] 64), ((φ17 0), .cells #[.bool true, .pointer none, .int .u64 ((X + 1 : Nat) : Int), .pointer none] 64)] [] 2 [.o 1, .o 1, .o 1, .o 1, .o 0, .o 0, .o 0, .o 0] 0 (fun φ21 => [(60, .agg #[.bool true, .pointer none, .int .u64 ((X + 1 : Nat) : Int), .pointer none])]) (fun φ21 => [((φ7 3), .cells #[.bool true, .pointer none, .int .u64 ((X + 1 : Nat) : Int), .pointer none] 64), ((φ17 0), .cells #[.bool true, .pointer none, .int .u64 ((X + 1 : Nat) : Int), .pointer none] 64)]) (fun φ21 => [(φ17 0), (φ17 0), (φ17 0), (φ17 0), (φ7 3), (φ7 3), (φ7 3), (φ7 3)]) s trivial (fun φ21 => by kernel_rfl) ?_
          intro φ21 w21 s
          refine ops_done (by kernel_rfl) ?_
          refine region_rule ?_
          refine ops_rule (C := []) [((φ7 3), .cells #[.bool true, .pointer none, .int .u64 ((X + 1 : Nat) : Int), .pointer none] 64), ((φ17 0), .cells #[.bool true, .pointer none, .int .u64 ((X + 1 : Nat) : Int), .pointer none] 64)] [] 2 [] 0 (fun φ22 => [(30, .int .i64 (IntKind.wrap .i64 (((k : Nat) : Int) + ((1 : Nat) : Int)))), (61, .int .i64 (IntKind.wrap .i64 (((k : Nat) : Int) + ((1 : Nat) : Int))))]) (fun φ22 => [((φ7 3), .cells #[.bool true, .pointer none, .int .u64 ((X + 1 : Nat) : Int), .pointer none] 64), ((φ17 0), .cells #[.bool true, .pointer none, .int .u64 ((X + 1 : Nat) : Int), .pointer none] 64)]) (fun φ22 => []) s trivial (fun φ22 => by kernel_rfl) ?_
          intro φ22 w22 s
          rw [nat_addI (a := k) (b := 1) (by omega)]
          refine ops_done (by kernel_rfl) ?_
          have hp := of_decide_eq_true hc11
          have hk4 := of_decide_eq_true hc13
          exact ⟨⟨m - 1, (k + 1, X + 1), _, _, _, by omega, rfl, s, (List.Sublist.cons₂ _ (List.Sublist.cons _ List.Sublist.slnil)), by kernel_rfl, hle9, by simp only; omega, by simp only; omega⟩⟩
        ·
          refine ops_rule (C := []) [((φ7 3), .cells #[.bool true, .pointer none, .int .u64 ((X : Nat) : Int), .pointer none] 64), ((φ17 0), .cells #[.bool true, .pointer none, .int .u64 ((X + 1 : Nat) : Int), .pointer none] 64)] [] 15 [] 0 (fun φ23 => [(59, .bool false), (58, .bool false), (57, undef), (56, undef), (55, undef), (54, undef), (53, undef), (52, undef), (51, undef), (50, undef), (49, .bool false), (48, .bool false), (47, .int .i64 0), (46, .bool false), (45, .bool false)]) (fun φ23 => [((φ7 3), .cells #[.bool true, .pointer none, .int .u64 ((X : Nat) : Int), .pointer none] 64), ((φ17 0), .cells #[.bool true, .pointer none, .int .u64 ((X + 1 : Nat) : Int), .pointer none] 64)]) (fun φ23 => []) s trivial (fun φ23 => by kernel_rfl) ?_
          intro φ23 w23 s
          refine ops_done (by kernel_rfl) ?_
          refine cond_false_rule (b := false) (by kernel_rfl) rfl ?_
          refine wp_skip ?_
          refine region_rule ?_
          refine ops_rule (C := []) [((φ7 3), .cells #[.bool true, .pointer none, .int .u64 ((X : Nat) : Int), .pointer none] 64), ((φ17 0), .cells #[.bool true, .pointer none, .int .u64 ((X + 1 : Nat) : Int), .pointer none] 64)] [] 2 [.o 1, .o 1, .o 1, .o 1, .o 0, .o 0, .o 0, .o 0] 0 (fun φ24 => [(60, .agg #[.bool true, .pointer none, .int .u64 ((X + 1 : Nat) : Int), .pointer none])]) (fun φ24 => [((φ7 3), .cells #[.bool true, .pointer none, .int .u64 ((X + 1 : Nat) : Int), .pointer none] 64), ((φ17 0), .cells #[.bool true, .pointer none, .int .u64 ((X + 1 : Nat) : Int), .pointer none] 64)]) (fun φ24 => [(φ17 0), (φ17 0), (φ17 0), (φ17 0), (φ7 3), (φ7 3), (φ7 3), (φ7 3)]) s trivial (fun φ24 => by kernel_rfl) ?_
          intro φ24 w24 s
          refine ops_done (by kernel_rfl) ?_
          refine region_rule ?_
          refine ops_rule (C := []) [((φ7 3), .cells #[.bool true, .pointer none, .int .u64 ((X + 1 : Nat) : Int), .pointer none] 64), ((φ17 0), .cells #[.bool true, .pointer none, .int .u64 ((X + 1 : Nat) : Int), .pointer none] 64)] [] 2 [] 0 (fun φ25 => [(30, .int .i64 (IntKind.wrap .i64 (((k : Nat) : Int) + ((1 : Nat) : Int)))), (61, .int .i64 (IntKind.wrap .i64 (((k : Nat) : Int) + ((1 : Nat) : Int))))]) (fun φ25 => [((φ7 3), .cells #[.bool true, .pointer none, .int .u64 ((X + 1 : Nat) : Int), .pointer none] 64), ((φ17 0), .cells #[.bool true, .pointer none, .int .u64 ((X + 1 : Nat) : Int), .pointer none] 64)]) (fun φ25 => []) s trivial (fun φ25 => by kernel_rfl) ?_
          intro φ25 w25 s
          rw [nat_addI (a := k) (b := 1) (by omega)]
          refine ops_done (by kernel_rfl) ?_
          have hp := of_decide_eq_true hc11
          have hk4 := of_decide_eq_true hc13
          exact ⟨⟨m - 1, (k + 1, X + 1), _, _, _, by omega, rfl, s, (List.Sublist.cons₂ _ (List.Sublist.cons _ List.Sublist.slnil)), by kernel_rfl, hle9, by simp only; omega, by simp only; omega⟩⟩
      ·
        rw [hc13]
        refine cond_false_rule (b := false) (by kernel_rfl) rfl ?_
        refine wp_exit ?_
        refine wp_seq ?_
        refine region_rule ?_
        refine call_rule (some 62) s (seed_c) (by kernel_rfl) ?_
        intro v26 I26 w26 le26 h26 s
        replace hT := Tab.mono le26 hT
        replace hle9 := leMono le26 hle9
        obtain rfl := h26
        refine ops_rule (C := []) [((φ7 3), .cells #[.bool true, .pointer none, .int .u64 ((X : Nat) : Int), .pointer none] 64)] [] 1 [.o 0, .o 0, .o 0, .o 0] 0 (fun φ27 => []) (fun φ27 => [((φ7 3), .cells #[.bool true, .pointer none, .int .u64 0, .pointer none] 64)]) (fun φ27 => [(φ7 3), (φ7 3), (φ7 3), (φ7 3)]) s trivial (fun φ27 => by kernel_rfl) ?_
        intro φ27 w27 s
        refine ops_done (by kernel_rfl) ?_
        refine wp_seq ?_
        refine wp_seq ?_
        refine region_rule ?_
        refine ops_rule (C := []) [((φ7 3), .cells #[.bool true, .pointer none, .int .u64 0, .pointer none] 64)] [] 1 [] 0 (fun φ28 => [(63, .int .i64 0)]) (fun φ28 => [((φ7 3), .cells #[.bool true, .pointer none, .int .u64 0, .pointer none] 64)]) (fun φ28 => []) s trivial (fun φ28 => by kernel_rfl) ?_
        intro φ28 w28 s
        refine ops_done (by kernel_rfl) ?_
        refine wp_block ?_
        have hle29 := IM.Le.refl I26
        refine loop_rule (fun (x : Nat × T × Bool × Option Addr) => [(0, .int .u8 ((n : Nat) : Int)), (1, .int .u16 ((turns : Nat) : Int)), (4, .bool false), (7, .pointer (some ⟨(φ7 3), 0, none⟩)), (63, .int .i64 ((x.1 : Nat) : Int))]) (fun (x : Nat × T × Bool × Option Addr) => [((φ7 3), .cells #[.bool x.2.2.1, .pointer x.2.2.2, .int .u64 0, .pointer none] 64)]) (fun m (x : Nat × T × Bool × Option Addr) J => IM.Le I26 J ∧ x.1 + m = 18 ∧ Spine (min x.1 16) x.2.1 ∧ TRep J x.2.1 x.2.2.1 x.2.2.2) 18 (0, T.one, true, none) s (by kernel_rfl) (List.Sublist.cons₂ _ List.Sublist.slnil) ⟨IM.Le.refl _, rfl, rfl, rfl, rfl⟩ ?_
        rintro m ⟨k, i, b, p⟩ I30 w30 evj s ⟨le30, hm, hsp, hi⟩
        dsimp only at s hm hsp hi ⊢
        replace hT := Tab.mono le30 hT
        replace hle9 := leMono le30 hle9
        replace hle29 := leMono le30 hle29
        rcases Bool.eq_false_or_eq_true (decide (k < 16)) with hc31 | hc31
        ·
          refine wp_seq ?_
          refine region_rule ?_
          refine ops_rule (C := []) [((φ7 3), .cells #[.bool b, .pointer p, .int .u64 0, .pointer none] 64)] [] 1 [] 0 (fun φ32 => [(64, .bool (decide (((k : Nat) : Int) < ((18 : Nat) : Int))))]) (fun φ32 => [((φ7 3), .cells #[.bool b, .pointer p, .int .u64 0, .pointer none] 64)]) (fun φ32 => []) s trivial (fun φ32 => by kernel_rfl) ?_
          intro φ32 w32 s
          rw [nat_lss (a := k) (b := 18)]
          refine ops_done (by kernel_rfl) ?_
          refine wp_seq ?_
          rcases Bool.eq_false_or_eq_true (decide (k < 18)) with hc33 | hc33
          ·
            rw [hc33]
            refine cond_true_rule (b := true) (by kernel_rfl) rfl ?_
            refine wp_skip ?_
            refine wp_seq ?_
            refine wp_block ?_
            refine wp_seq ?_
            refine region_rule ?_
            refine ops_rule (C := []) [((φ7 3), .cells #[.bool b, .pointer p, .int .u64 0, .pointer none] 64)] [] 2 [] 0 (fun φ34 => [(11, .int .i64 ((k : Nat) : Int)), (65, .int .i64 ((k : Nat) : Int))]) (fun φ34 => [((φ7 3), .cells #[.bool b, .pointer p, .int .u64 0, .pointer none] 64)]) (fun φ34 => []) s trivial (fun φ34 => by kernel_rfl) ?_
            intro φ34 w34 s
            refine ops_done (by kernel_rfl) ?_
            refine wp_seq ?_
            refine region_rule ?_
            refine ops_rule (C := []) [((φ7 3), .cells #[.bool b, .pointer p, .int .u64 0, .pointer none] 64)] [] 1 [.o 0, .o 0, .o 0, .o 0] 0 (fun φ35 => [(67, .agg #[.bool b, .pointer p, .int .u64 0, .pointer none])]) (fun φ35 => [((φ7 3), .cells #[.bool b, .pointer p, .int .u64 0, .pointer none] 64)]) (fun φ35 => [(φ7 3), (φ7 3), (φ7 3), (φ7 3)]) s trivial (fun φ35 => by kernel_rfl) ?_
            intro φ35 w35 s
            refine call_rule (some 68) s (forkOk_c (k := k) (of_decide_eq_true hc31) ((show min k 16 = k by have := of_decide_eq_true hc31; omega) ▸ hsp) hi) (by kernel_rfl) ?_
            intro v36 I36 w36 le36 h36 s
            replace hT := Tab.mono le36 hT
            replace hle9 := leMono le36 hle9
            replace hle29 := leMono le36 hle29
            replace hi := TRep.mono le36 hi
            obtain ⟨b36, p36, b236, p236, rfl, h36_0, h36_1⟩ := h36
            refine ops_rule (C := []) [((φ7 3), .cells #[.bool b, .pointer p, .int .u64 0, .pointer none] 64)] [] 9 [.o 1, .o 1, .o 1, .o 1, .o 2, .o 2, .o 2, .o 2] 2 (fun φ37 => [(14, .int .i64 0), (13, .pointer (some ⟨(φ37 1), 0, none⟩)), (12, .pointer (some ⟨(φ37 0), 0, none⟩)), (71, .int .i64 0), (70, .agg #[.bool b236, .pointer p236, .int .u64 0, .pointer none]), (69, .agg #[.bool b36, .pointer p36, .int .u64 0, .pointer none]), (66, .tuple #[.agg #[.bool b36, .pointer p36, .int .u64 0, .pointer none], .agg #[.bool b236, .pointer p236, .int .u64 0, .pointer none], .int .i64 0])]) (fun φ37 => [((φ7 3), .cells #[.bool b, .pointer p, .int .u64 0, .pointer none] 64), ((φ37 0), .cells #[.bool b36, .pointer p36, .int .u64 0, .pointer none] 64), ((φ37 1), .cells #[.bool b236, .pointer p236, .int .u64 0, .pointer none] 64)]) (fun φ37 => [(φ37 0), (φ37 0), (φ37 0), (φ37 0), (φ37 1), (φ37 1), (φ37 1), (φ37 1)]) s trivial (fun φ37 => by kernel_rfl) ?_
            intro φ37 w37 s
            refine ops_done (by kernel_rfl) ?_
            refine wp_seq ?_
            refine wp_seq ?_
            refine region_rule ?_
            refine ops_rule (C := []) [((φ7 3), .cells #[.bool b, .pointer p, .int .u64 0, .pointer none] 64), ((φ37 0), .cells #[.bool b36, .pointer p36, .int .u64 0, .pointer none] 64), ((φ37 1), .cells #[.bool b236, .pointer p236, .int .u64 0, .pointer none] 64)] [] 4 [] 0 (fun φ38 => [(75, .bool (decide (((k : Nat) : Int) < ((16 : Nat) : Int)))), (74, .int .i64 ((k : Nat) : Int)), (73, .bool true), (72, .int .i64 0)]) (fun φ38 => [((φ7 3), .cells #[.bool b, .pointer p, .int .u64 0, .pointer none] 64), ((φ37 0), .cells #[.bool b36, .pointer p36, .int .u64 0, .pointer none] 64), ((φ37 1), .cells #[.bool b236, .pointer p236, .int .u64 0, .pointer none] 64)]) (fun φ38 => []) s trivial (fun φ38 => by kernel_rfl) ?_
            intro φ38 w38 s
            rw [nat_lss (a := k) (b := 16)]
            rw [hc31]
            refine ops_rule (C := []) [((φ7 3), .cells #[.bool b, .pointer p, .int .u64 0, .pointer none] 64), ((φ37 0), .cells #[.bool b36, .pointer p36, .int .u64 0, .pointer none] 64), ((φ37 1), .cells #[.bool b236, .pointer p236, .int .u64 0, .pointer none] 64)] [] 9 [] 0 (fun φ39 => [(84, .bool false), (83, .bool false), (82, undef), (81, undef), (80, .bool false), (79, .bool false), (78, .int .i64 0), (77, .bool false), (76, .bool false)]) (fun φ39 => [((φ7 3), .cells #[.bool b, .pointer p, .int .u64 0, .pointer none] 64), ((φ37 0), .cells #[.bool b36, .pointer p36, .int .u64 0, .pointer none] 64), ((φ37 1), .cells #[.bool b236, .pointer p236, .int .u64 0, .pointer none] 64)]) (fun φ39 => []) s trivial (fun φ39 => by kernel_rfl) ?_
            intro φ39 w39 s
            refine ops_done (by kernel_rfl) ?_
            refine cond_false_rule (b := false) (by kernel_rfl) rfl ?_
            refine wp_skip ?_
            refine wp_seq ?_
            refine wp_seq ?_
            refine region_rule ?_
            refine ops_rule (C := []) [((φ7 3), .cells #[.bool b, .pointer p, .int .u64 0, .pointer none] 64), ((φ37 0), .cells #[.bool b36, .pointer p36, .int .u64 0, .pointer none] 64), ((φ37 1), .cells #[.bool b236, .pointer p236, .int .u64 0, .pointer none] 64)] [] 2 [] 0 (fun φ40 => [(86, .bool false), (85, .int .i64 0)]) (fun φ40 => [((φ7 3), .cells #[.bool b, .pointer p, .int .u64 0, .pointer none] 64), ((φ37 0), .cells #[.bool b36, .pointer p36, .int .u64 0, .pointer none] 64), ((φ37 1), .cells #[.bool b236, .pointer p236, .int .u64 0, .pointer none] 64)]) (fun φ40 => []) s trivial (fun φ40 => by kernel_rfl) ?_
            intro φ40 w40 s
            refine ops_done (by kernel_rfl) ?_
            refine cond_false_rule (b := false) (by kernel_rfl) rfl ?_
            refine wp_skip ?_
            refine wp_seq ?_
            refine region_rule ?_
            refine ops_rule (C := []) [((φ7 3), .cells #[.bool b, .pointer p, .int .u64 0, .pointer none] 64), ((φ37 0), .cells #[.bool b36, .pointer p36, .int .u64 0, .pointer none] 64), ((φ37 1), .cells #[.bool b236, .pointer p236, .int .u64 0, .pointer none] 64)] [] 2 [.o 1, .o 1, .o 1, .o 1, .o 0, .o 0, .o 0, .o 0] 0 (fun φ41 => [(87, .agg #[.bool b36, .pointer p36, .int .u64 0, .pointer none])]) (fun φ41 => [((φ7 3), .cells #[.bool b36, .pointer p36, .int .u64 0, .pointer none] 64), ((φ37 0), .cells #[.bool b36, .pointer p36, .int .u64 0, .pointer none] 64), ((φ37 1), .cells #[.bool b236, .pointer p236, .int .u64 0, .pointer none] 64)]) (fun φ41 => [(φ37 0), (φ37 0), (φ37 0), (φ37 0), (φ7 3), (φ7 3), (φ7 3), (φ7 3)]) s trivial (fun φ41 => by kernel_rfl) ?_
            intro φ41 w41 s
            refine ops_done (by kernel_rfl) ?_
            refine wp_seq ?_
            refine region_rule ?_
            refine ops_rule (C := []) [((φ7 3), .cells #[.bool b36, .pointer p36, .int .u64 0, .pointer none] 64), ((φ37 0), .cells #[.bool b36, .pointer p36, .int .u64 0, .pointer none] 64), ((φ37 1), .cells #[.bool b236, .pointer p236, .int .u64 0, .pointer none] 64)] [] 2 [] 0 (fun φ42 => [(89, .int .i64 ((k : Nat) : Int)), (88, .int .u16 ((turns : Nat) : Int))]) (fun φ42 => [((φ7 3), .cells #[.bool b36, .pointer p36, .int .u64 0, .pointer none] 64), ((φ37 0), .cells #[.bool b36, .pointer p36, .int .u64 0, .pointer none] 64), ((φ37 1), .cells #[.bool b236, .pointer p236, .int .u64 0, .pointer none] 64)]) (fun φ42 => []) s trivial (fun φ42 => by kernel_rfl) ?_
            intro φ42 w42 s
            refine sem_rule (binOp .shr 102 (.int .u16 ((turns : Nat) : Int)) (.int .i64 ((k : Nat) : Int))) (some 90) (.int .u16 (Int.fdiv ((turns : Nat) : Int) (2 ^ min k 16))) (by kernel_rfl) run_shr ?_
            refine ops_rule (C := []) [((φ7 3), .cells #[.bool b36, .pointer p36, .int .u64 0, .pointer none] 64), ((φ37 0), .cells #[.bool b36, .pointer p36, .int .u64 0, .pointer none] 64), ((φ37 1), .cells #[.bool b236, .pointer p236, .int .u64 0, .pointer none] 64)] [] 2 [] 0 (fun φ43 => [(92, .bool ((Int.tmod (Int.fdiv ((turns : Nat) : Int) (2 ^ min k 16)) ((2 : Nat) : Int)) == ((1 : Nat) : Int))), (91, .int .u16 (Int.tmod (Int.fdiv ((turns : Nat) : Int) (2 ^ min k 16)) ((2 : Nat) : Int)))]) (fun φ43 => [((φ7 3), .cells #[.bool b36, .pointer p36, .int .u64 0, .pointer none] 64), ((φ37 0), .cells #[.bool b36, .pointer p36, .int .u64 0, .pointer none] 64), ((φ37 1), .cells #[.bool b236, .pointer p236, .int .u64 0, .pointer none] 64)]) (fun φ43 => []) s trivial (fun φ43 => by kernel_rfl) ?_
            intro φ43 w43 s
            refine ops_done (by kernel_rfl) ?_
            rcases Bool.eq_false_or_eq_true ((Int.tmod (Int.fdiv ((turns : Nat) : Int) (2 ^ min k 16)) ((2 : Nat) : Int)) == ((1 : Nat) : Int)) with hc44 | hc44
            ·
              rw [hc44]
              refine cond_true_rule (b := true) (by kernel_rfl) rfl ?_
              refine region_rule ?_
              refine ops_rule (C := []) [((φ7 3), .cells #[.bool b36, .pointer p36, .int .u64 0, .pointer none] 64), ((φ37 0), .cells #[.bool b36, .pointer p36, .int .u64 0, .pointer none] 64), ((φ37 1), .cells #[.bool b236, .pointer p236, .int .u64 0, .pointer none] 64)] [] 2 [.o 2, .o 2, .o 2, .o 2, .o 0, .o 0, .o 0, .o 0] 0 (fun φ45 => [(93, .agg #[.bool b236, .pointer p236, .int .u64 0, .pointer none])]) (fun φ45 => [((φ7 3), .cells #[.bool b236, .pointer p236, .int .u64 0, .pointer none] 64), ((φ37 0), .cells #[.bool b36, .pointer p36, .int .u64 0, .pointer none] 64), ((φ37 1), .cells #[.bool b236, .pointer p236, .int .u64 0, .pointer none] 64)]) (fun φ45 => [(φ37 1), (φ37 1), (φ37 1), (φ37 1), (φ7 3), (φ7 3), (φ7 3), (φ7 3)]) s trivial (fun φ45 => by kernel_rfl) ?_
              intro φ45 w45 s
              refine ops_done (by kernel_rfl) ?_
              refine region_rule ?_
              refine ops_rule (C := []) [((φ7 3), .cells #[.bool b236, .pointer p236, .int .u64 0, .pointer none] 64), ((φ37 0), .cells #[.bool b36, .pointer p36, .int .u64 0, .pointer none] 64), ((φ37 1), .cells #[.bool b236, .pointer p236, .int .u64 0, .pointer none] 64)] [] 2 [] 0 (fun φ46 => [(63, .int .i64 (IntKind.wrap .i64 (((k : Nat) : Int) + ((1 : Nat) : Int)))), (94, .int .i64 (IntKind.wrap .i64 (((k : Nat) : Int) + ((1 : Nat) : Int))))]) (fun φ46 => [((φ7 3), .cells #[.bool b236, .pointer p236, .int .u64 0, .pointer none] 64), ((φ37 0), .cells #[.bool b36, .pointer p36, .int .u64 0, .pointer none] 64), ((φ37 1), .cells #[.bool b236, .pointer p236, .int .u64 0, .pointer none] 64)]) (fun φ46 => []) s trivial (fun φ46 => by kernel_rfl) ?_
              intro φ46 w46 s
              rw [nat_addI (a := k) (b := 1) (by omega)]
              refine ops_done (by kernel_rfl) ?_
              have hk18 := of_decide_eq_true hc33
              exact ⟨⟨m - 1, (k + 1, (cutT i).2, b236, p236), _, _, _, by omega, rfl, s, (List.Sublist.cons₂ _ (List.Sublist.cons _ (List.Sublist.cons _ List.Sublist.slnil))), by kernel_rfl, hle29, by simp only; omega, (by have h16 := of_decide_eq_true hc31; rw [show min (k + 1) 16 = k + 1 by omega]; exact ((show min k 16 = k by omega) ▸ hsp : Spine k i).cut.2), h36_1⟩⟩
            ·
              rw [hc44]
              refine cond_false_rule (b := false) (by kernel_rfl) rfl ?_
              refine wp_skip ?_
              refine region_rule ?_
              refine ops_rule (C := []) [((φ7 3), .cells #[.bool b36, .pointer p36, .int .u64 0, .pointer none] 64), ((φ37 0), .cells #[.bool b36, .pointer p36, .int .u64 0, .pointer none] 64), ((φ37 1), .cells #[.bool b236, .pointer p236, .int .u64 0, .pointer none] 64)] [] 2 [] 0 (fun φ47 => [(63, .int .i64 (IntKind.wrap .i64 (((k : Nat) : Int) + ((1 : Nat) : Int)))), (94, .int .i64 (IntKind.wrap .i64 (((k : Nat) : Int) + ((1 : Nat) : Int))))]) (fun φ47 => [((φ7 3), .cells #[.bool b36, .pointer p36, .int .u64 0, .pointer none] 64), ((φ37 0), .cells #[.bool b36, .pointer p36, .int .u64 0, .pointer none] 64), ((φ37 1), .cells #[.bool b236, .pointer p236, .int .u64 0, .pointer none] 64)]) (fun φ47 => []) s trivial (fun φ47 => by kernel_rfl) ?_
              intro φ47 w47 s
              rw [nat_addI (a := k) (b := 1) (by omega)]
              refine ops_done (by kernel_rfl) ?_
              have hk18 := of_decide_eq_true hc33
              exact ⟨⟨m - 1, (k + 1, (cutT i).1, b36, p36), _, _, _, by omega, rfl, s, (List.Sublist.cons₂ _ (List.Sublist.cons _ (List.Sublist.cons _ List.Sublist.slnil))), by kernel_rfl, hle29, by simp only; omega, (by have h16 := of_decide_eq_true hc31; rw [show min (k + 1) 16 = k + 1 by omega]; exact ((show min k 16 = k by omega) ▸ hsp : Spine k i).cut.1), h36_0⟩⟩
          ·
            rw [hc33]
            refine cond_false_rule (b := false) (by kernel_rfl) rfl ?_
            refine wp_exit ?_
            refine wp_seq ?_
            refine region_rule ?_
            refine ops_rule (C := []) [((φ7 3), .cells #[.bool b, .pointer p, .int .u64 0, .pointer none] 64)] [] 1 [.o 0, .o 0, .o 0, .o 0] 0 (fun φ48 => [(96, .agg #[.bool b, .pointer p, .int .u64 0, .pointer none])]) (fun φ48 => [((φ7 3), .cells #[.bool b, .pointer p, .int .u64 0, .pointer none] 64)]) (fun φ48 => [(φ7 3), (φ7 3), (φ7 3), (φ7 3)]) s trivial (fun φ48 => by kernel_rfl) ?_
            intro φ48 w48 s
            refine call_rule (some 97) s (tickSpine_c (by have := of_decide_eq_false hc33; exact (show min k 16 = 16 by omega) ▸ hsp) hi) (by kernel_rfl) ?_
            intro v49 I49 w49 le49 h49 s
            replace hT := Tab.mono le49 hT
            replace hle9 := leMono le49 hle9
            replace hle29 := leMono le49 hle29
            replace hi := TRep.mono le49 hi
            obtain ⟨b49, p49, rfl, h49_0⟩ := h49
            refine ops_rule (C := []) [((φ7 3), .cells #[.bool b, .pointer p, .int .u64 0, .pointer none] 64)] [] 6 [.o 1, .o 1, .o 1, .o 1] 1 (fun φ50 => [(16, .int .i64 0), (15, .pointer (some ⟨(φ50 0), 0, none⟩)), (99, .int .i64 0), (98, .agg #[.bool b, .pointer p, .int .u64 ((b49 : Nat) : Int), .pointer p49]), (95, .tuple #[.agg #[.bool b, .pointer p, .int .u64 ((b49 : Nat) : Int), .pointer p49], .int .i64 0])]) (fun φ50 => [((φ7 3), .cells #[.bool b, .pointer p, .int .u64 0, .pointer none] 64), ((φ50 0), .cells #[.bool b, .pointer p, .int .u64 ((b49 : Nat) : Int), .pointer p49] 64)]) (fun φ50 => [(φ50 0), (φ50 0), (φ50 0), (φ50 0)]) s trivial (fun φ50 => by kernel_rfl) ?_
            intro φ50 w50 s
            refine ops_done (by kernel_rfl) ?_
            refine wp_seq ?_
            refine region_rule ?_
            refine ops_rule (C := []) [((φ7 3), .cells #[.bool b, .pointer p, .int .u64 0, .pointer none] 64), ((φ50 0), .cells #[.bool b, .pointer p, .int .u64 ((b49 : Nat) : Int), .pointer p49] 64)] [] 5 [.o 1, .o 1] 0 (fun φ51 => [(104, .agg #[.int .u64 ((b49 : Nat) : Int), .pointer p49]), (103, .pointer (some ⟨(φ50 0), 2, none⟩)), (102, .bool true), (101, .bool true), (100, .int .i64 0)]) (fun φ51 => [((φ7 3), .cells #[.bool b, .pointer p, .int .u64 0, .pointer none] 64), ((φ50 0), .cells #[.bool b, .pointer p, .int .u64 ((b49 : Nat) : Int), .pointer p49] 64)]) (fun φ51 => [(φ50 0), (φ50 0)]) s trivial (fun φ51 => by kernel_rfl) ?_
            intro φ51 w51 s
            refine call_rule (some 105) s (depth16_c h49_0 (spine_grow 40 16 (by have := of_decide_eq_false hc33; exact (show min k 16 = 16 by omega) ▸ hsp) (by omega) (by omega) (by omega)).2.1) (by kernel_rfl) ?_
            intro v52 I52 w52 le52 h52 s
            replace hT := Tab.mono le52 hT
            replace hle9 := leMono le52 hle9
            replace hle29 := leMono le52 hle29
            replace hi := TRep.mono le52 hi
            replace h49_0 := ERep.mono le52 h49_0
            obtain rfl := h52
            refine ops_rule (C := []) [((φ7 3), .cells #[.bool b, .pointer p, .int .u64 0, .pointer none] 64), ((φ50 0), .cells #[.bool b, .pointer p, .int .u64 ((b49 : Nat) : Int), .pointer p49] 64)] [] 5 [.o 1, .o 1] 0 (fun φ53 => [(110, .agg #[.int .u64 ((b49 : Nat) : Int), .pointer p49]), (109, .pointer (some ⟨(φ50 0), 2, none⟩)), (108, .bool true), (107, .bool true), (106, .bool true)]) (fun φ53 => [((φ7 3), .cells #[.bool b, .pointer p, .int .u64 0, .pointer none] 64), ((φ50 0), .cells #[.bool b, .pointer p, .int .u64 ((b49 : Nat) : Int), .pointer p49] 64)]) (fun φ53 => [(φ50 0), (φ50 0)]) s trivial (fun φ53 => by kernel_rfl) ?_
            intro φ53 w53 s
            refine call_rule (some 111) s (max1_c h49_0 (spine_grow 40 16 (by have := of_decide_eq_false hc33; exact (show min k 16 = 16 by omega) ▸ hsp) (by omega) (by omega) (by omega)).2.2.1) (by kernel_rfl) ?_
            intro v54 I54 w54 le54 h54 s
            replace hT := Tab.mono le54 hT
            replace hle9 := leMono le54 hle9
            replace hle29 := leMono le54 hle29
            replace hi := TRep.mono le54 hi
            replace h49_0 := ERep.mono le54 h49_0
            obtain rfl := h54
            refine ops_rule (C := []) [((φ7 3), .cells #[.bool b, .pointer p, .int .u64 0, .pointer none] 64), ((φ50 0), .cells #[.bool b, .pointer p, .int .u64 ((b49 : Nat) : Int), .pointer p49] 64)] [] 3 [] 0 (fun φ55 => [(4, .bool true), (113, .bool true), (112, .bool true)]) (fun φ55 => [((φ7 3), .cells #[.bool b, .pointer p, .int .u64 0, .pointer none] 64), ((φ50 0), .cells #[.bool b, .pointer p, .int .u64 ((b49 : Nat) : Int), .pointer p49] 64)]) (fun φ55 => []) s trivial (fun φ55 => by kernel_rfl) ?_
            intro φ55 w55 s
            refine ops_done (by kernel_rfl) ?_
            refine wp_ret ?_
            refine ret_rule (C := []) [((φ7 3), .cells #[.bool b, .pointer p, .int .u64 0, .pointer none] 64), ((φ50 0), .cells #[.bool b, .pointer p, .int .u64 ((b49 : Nat) : Int), .pointer p49] 64)] [] (.bool true) [] [] s trivial (by kernel_rfl) ?_
            exact ⟨_, _, _, rfl, s, rfl⟩
        ·
          refine wp_seq ?_
          refine region_rule ?_
          refine ops_rule (C := []) [((φ7 3), .cells #[.bool b, .pointer p, .int .u64 0, .pointer none] 64)] [] 1 [] 0 (fun φ56 => [(64, .bool (decide (((k : Nat) : Int) < ((18 : Nat) : Int))))]) (fun φ56 => [((φ7 3), .cells #[.bool b, .pointer p, .int .u64 0, .pointer none] 64)]) (fun φ56 => []) s trivial (fun φ56 => by kernel_rfl) ?_
          intro φ56 w56 s
          rw [nat_lss (a := k) (b := 18)]
          refine ops_done (by kernel_rfl) ?_
          refine wp_seq ?_
          rcases Bool.eq_false_or_eq_true (decide (k < 18)) with hc57 | hc57
          ·
            rw [hc57]
            refine cond_true_rule (b := true) (by kernel_rfl) rfl ?_
            refine wp_skip ?_
            refine wp_seq ?_
            refine wp_block ?_
            refine wp_seq ?_
            refine region_rule ?_
            refine ops_rule (C := []) [((φ7 3), .cells #[.bool b, .pointer p, .int .u64 0, .pointer none] 64)] [] 2 [] 0 (fun φ58 => [(11, .int .i64 ((k : Nat) : Int)), (65, .int .i64 ((k : Nat) : Int))]) (fun φ58 => [((φ7 3), .cells #[.bool b, .pointer p, .int .u64 0, .pointer none] 64)]) (fun φ58 => []) s trivial (fun φ58 => by kernel_rfl) ?_
            intro φ58 w58 s
            refine ops_done (by kernel_rfl) ?_
            refine wp_seq ?_
            refine region_rule ?_
            refine ops_rule (C := []) [((φ7 3), .cells #[.bool b, .pointer p, .int .u64 0, .pointer none] 64)] [] 1 [.o 0, .o 0, .o 0, .o 0] 0 (fun φ59 => [(67, .agg #[.bool b, .pointer p, .int .u64 0, .pointer none])]) (fun φ59 => [((φ7 3), .cells #[.bool b, .pointer p, .int .u64 0, .pointer none] 64)]) (fun φ59 => [(φ7 3), (φ7 3), (φ7 3), (φ7 3)]) s trivial (fun φ59 => by kernel_rfl) ?_
            intro φ59 w59 s
            refine call_rule (some 68) s (forkNo_c ((show min k 16 = 16 by have := of_decide_eq_false hc31; omega) ▸ hsp) hi) (by kernel_rfl) ?_
            intro v60 I60 w60 le60 h60 s
            replace hT := Tab.mono le60 hT
            replace hle9 := leMono le60 hle9
            replace hle29 := leMono le60 hle29
            replace hi := TRep.mono le60 hi
            obtain rfl := h60
            refine ops_rule (C := []) [((φ7 3), .cells #[.bool b, .pointer p, .int .u64 0, .pointer none] 64)] [] 9 [.o 1, .o 1, .o 1, .o 1, .o 2, .o 2, .o 2, .o 2] 2 (fun φ61 => [(14, .int .i64 3), (13, .pointer (some ⟨(φ61 1), 0, none⟩)), (12, .pointer (some ⟨(φ61 0), 0, none⟩)), (71, .int .i64 3), (70, .agg #[.bool false, .pointer none, .int .u64 0, .pointer none]), (69, .agg #[.bool false, .pointer none, .int .u64 0, .pointer none]), (66, .tuple #[.agg #[.bool false, .pointer none, .int .u64 0, .pointer none], .agg #[.bool false, .pointer none, .int .u64 0, .pointer none], .int .i64 3])]) (fun φ61 => [((φ7 3), .cells #[.bool b, .pointer p, .int .u64 0, .pointer none] 64), ((φ61 0), .cells #[.bool false, .pointer none, .int .u64 0, .pointer none] 64), ((φ61 1), .cells #[.bool false, .pointer none, .int .u64 0, .pointer none] 64)]) (fun φ61 => [(φ61 0), (φ61 0), (φ61 0), (φ61 0), (φ61 1), (φ61 1), (φ61 1), (φ61 1)]) s trivial (fun φ61 => by kernel_rfl) ?_
            intro φ61 w61 s
            refine ops_done (by kernel_rfl) ?_
            refine wp_seq ?_
            refine wp_seq ?_
            refine region_rule ?_
            refine ops_rule (C := []) [((φ7 3), .cells #[.bool b, .pointer p, .int .u64 0, .pointer none] 64), ((φ61 0), .cells #[.bool false, .pointer none, .int .u64 0, .pointer none] 64), ((φ61 1), .cells #[.bool false, .pointer none, .int .u64 0, .pointer none] 64)] [] 4 [] 0 (fun φ62 => [(75, .bool (decide (((k : Nat) : Int) < ((16 : Nat) : Int)))), (74, .int .i64 ((k : Nat) : Int)), (73, .bool false), (72, .int .i64 3)]) (fun φ62 => [((φ7 3), .cells #[.bool b, .pointer p, .int .u64 0, .pointer none] 64), ((φ61 0), .cells #[.bool false, .pointer none, .int .u64 0, .pointer none] 64), ((φ61 1), .cells #[.bool false, .pointer none, .int .u64 0, .pointer none] 64)]) (fun φ62 => []) s trivial (fun φ62 => by kernel_rfl) ?_
            intro φ62 w62 s
            rw [nat_lss (a := k) (b := 16)]
            rw [hc31]
            refine ops_rule (C := []) [((φ7 3), .cells #[.bool b, .pointer p, .int .u64 0, .pointer none] 64), ((φ61 0), .cells #[.bool false, .pointer none, .int .u64 0, .pointer none] 64), ((φ61 1), .cells #[.bool false, .pointer none, .int .u64 0, .pointer none] 64)] [] 9 [] 0 (fun φ63 => [(84, .bool false), (83, .bool false), (82, .bool false), (81, .int .i64 3), (80, .bool true), (79, .bool true), (78, .int .i64 3), (77, .bool false), (76, .bool false)]) (fun φ63 => [((φ7 3), .cells #[.bool b, .pointer p, .int .u64 0, .pointer none] 64), ((φ61 0), .cells #[.bool false, .pointer none, .int .u64 0, .pointer none] 64), ((φ61 1), .cells #[.bool false, .pointer none, .int .u64 0, .pointer none] 64)]) (fun φ63 => []) s trivial (fun φ63 => by kernel_rfl) ?_
            intro φ63 w63 s
            refine ops_done (by kernel_rfl) ?_
            refine cond_false_rule (b := false) (by kernel_rfl) rfl ?_
            refine wp_skip ?_
            refine wp_seq ?_
            refine wp_seq ?_
            refine region_rule ?_
            refine ops_rule (C := []) [((φ7 3), .cells #[.bool b, .pointer p, .int .u64 0, .pointer none] 64), ((φ61 0), .cells #[.bool false, .pointer none, .int .u64 0, .pointer none] 64), ((φ61 1), .cells #[.bool false, .pointer none, .int .u64 0, .pointer none] 64)] [] 2 [] 0 (fun φ64 => [(86, .bool true), (85, .int .i64 3)]) (fun φ64 => [((φ7 3), .cells #[.bool b, .pointer p, .int .u64 0, .pointer none] 64), ((φ61 0), .cells #[.bool false, .pointer none, .int .u64 0, .pointer none] 64), ((φ61 1), .cells #[.bool false, .pointer none, .int .u64 0, .pointer none] 64)]) (fun φ64 => []) s trivial (fun φ64 => by kernel_rfl) ?_
            intro φ64 w64 s
            refine ops_done (by kernel_rfl) ?_
            refine cond_true_rule (b := true) (by kernel_rfl) rfl ?_
            refine wp_exit ?_
            refine region_rule ?_
            refine ops_rule (C := []) [((φ7 3), .cells #[.bool b, .pointer p, .int .u64 0, .pointer none] 64), ((φ61 0), .cells #[.bool false, .pointer none, .int .u64 0, .pointer none] 64), ((φ61 1), .cells #[.bool false, .pointer none, .int .u64 0, .pointer none] 64)] [] 2 [] 0 (fun φ65 => [(63, .int .i64 (IntKind.wrap .i64 (((k : Nat) : Int) + ((1 : Nat) : Int)))), (94, .int .i64 (IntKind.wrap .i64 (((k : Nat) : Int) + ((1 : Nat) : Int))))]) (fun φ65 => [((φ7 3), .cells #[.bool b, .pointer p, .int .u64 0, .pointer none] 64), ((φ61 0), .cells #[.bool false, .pointer none, .int .u64 0, .pointer none] 64), ((φ61 1), .cells #[.bool false, .pointer none, .int .u64 0, .pointer none] 64)]) (fun φ65 => []) s trivial (fun φ65 => by kernel_rfl) ?_
            intro φ65 w65 s
            rw [nat_addI (a := k) (b := 1) (by omega)]
            refine ops_done (by kernel_rfl) ?_
            have hk18 := of_decide_eq_true hc57
            exact ⟨⟨m - 1, (k + 1, i, b, p), _, _, _, by omega, rfl, s, (List.Sublist.cons₂ _ (List.Sublist.cons _ (List.Sublist.cons _ List.Sublist.slnil))), by kernel_rfl, hle29, by simp only; omega, (by have h16 := of_decide_eq_false hc31; rw [show min (k + 1) 16 = min k 16 by omega]; exact hsp), hi⟩⟩
          ·
            rw [hc57]
            refine cond_false_rule (b := false) (by kernel_rfl) rfl ?_
            refine wp_exit ?_
            refine wp_seq ?_
            refine region_rule ?_
            refine ops_rule (C := []) [((φ7 3), .cells #[.bool b, .pointer p, .int .u64 0, .pointer none] 64)] [] 1 [.o 0, .o 0, .o 0, .o 0] 0 (fun φ66 => [(96, .agg #[.bool b, .pointer p, .int .u64 0, .pointer none])]) (fun φ66 => [((φ7 3), .cells #[.bool b, .pointer p, .int .u64 0, .pointer none] 64)]) (fun φ66 => [(φ7 3), (φ7 3), (φ7 3), (φ7 3)]) s trivial (fun φ66 => by kernel_rfl) ?_
            intro φ66 w66 s
            refine call_rule (some 97) s (tickSpine_c (by have := of_decide_eq_false hc57; exact (show min k 16 = 16 by omega) ▸ hsp) hi) (by kernel_rfl) ?_
            intro v67 I67 w67 le67 h67 s
            replace hT := Tab.mono le67 hT
            replace hle9 := leMono le67 hle9
            replace hle29 := leMono le67 hle29
            replace hi := TRep.mono le67 hi
            obtain ⟨b67, p67, rfl, h67_0⟩ := h67
            refine ops_rule (C := []) [((φ7 3), .cells #[.bool b, .pointer p, .int .u64 0, .pointer none] 64)] [] 6 [.o 1, .o 1, .o 1, .o 1] 1 (fun φ68 => [(16, .int .i64 0), (15, .pointer (some ⟨(φ68 0), 0, none⟩)), (99, .int .i64 0), (98, .agg #[.bool b, .pointer p, .int .u64 ((b67 : Nat) : Int), .pointer p67]), (95, .tuple #[.agg #[.bool b, .pointer p, .int .u64 ((b67 : Nat) : Int), .pointer p67], .int .i64 0])]) (fun φ68 => [((φ7 3), .cells #[.bool b, .pointer p, .int .u64 0, .pointer none] 64), ((φ68 0), .cells #[.bool b, .pointer p, .int .u64 ((b67 : Nat) : Int), .pointer p67] 64)]) (fun φ68 => [(φ68 0), (φ68 0), (φ68 0), (φ68 0)]) s trivial (fun φ68 => by kernel_rfl) ?_
            intro φ68 w68 s
            refine ops_done (by kernel_rfl) ?_
            refine wp_seq ?_
            refine region_rule ?_
            refine ops_rule (C := []) [((φ7 3), .cells #[.bool b, .pointer p, .int .u64 0, .pointer none] 64), ((φ68 0), .cells #[.bool b, .pointer p, .int .u64 ((b67 : Nat) : Int), .pointer p67] 64)] [] 5 [.o 1, .o 1] 0 (fun φ69 => [(104, .agg #[.int .u64 ((b67 : Nat) : Int), .pointer p67]), (103, .pointer (some ⟨(φ68 0), 2, none⟩)), (102, .bool true), (101, .bool true), (100, .int .i64 0)]) (fun φ69 => [((φ7 3), .cells #[.bool b, .pointer p, .int .u64 0, .pointer none] 64), ((φ68 0), .cells #[.bool b, .pointer p, .int .u64 ((b67 : Nat) : Int), .pointer p67] 64)]) (fun φ69 => [(φ68 0), (φ68 0)]) s trivial (fun φ69 => by kernel_rfl) ?_
            intro φ69 w69 s
            refine call_rule (some 105) s (depth16_c h67_0 (spine_grow 40 16 (by have := of_decide_eq_false hc57; exact (show min k 16 = 16 by omega) ▸ hsp) (by omega) (by omega) (by omega)).2.1) (by kernel_rfl) ?_
            intro v70 I70 w70 le70 h70 s
            replace hT := Tab.mono le70 hT
            replace hle9 := leMono le70 hle9
            replace hle29 := leMono le70 hle29
            replace hi := TRep.mono le70 hi
            replace h67_0 := ERep.mono le70 h67_0
            obtain rfl := h70
            refine ops_rule (C := []) [((φ7 3), .cells #[.bool b, .pointer p, .int .u64 0, .pointer none] 64), ((φ68 0), .cells #[.bool b, .pointer p, .int .u64 ((b67 : Nat) : Int), .pointer p67] 64)] [] 5 [.o 1, .o 1] 0 (fun φ71 => [(110, .agg #[.int .u64 ((b67 : Nat) : Int), .pointer p67]), (109, .pointer (some ⟨(φ68 0), 2, none⟩)), (108, .bool true), (107, .bool true), (106, .bool true)]) (fun φ71 => [((φ7 3), .cells #[.bool b, .pointer p, .int .u64 0, .pointer none] 64), ((φ68 0), .cells #[.bool b, .pointer p, .int .u64 ((b67 : Nat) : Int), .pointer p67] 64)]) (fun φ71 => [(φ68 0), (φ68 0)]) s trivial (fun φ71 => by kernel_rfl) ?_
            intro φ71 w71 s
            refine call_rule (some 111) s (max1_c h67_0 (spine_grow 40 16 (by have := of_decide_eq_false hc57; exact (show min k 16 = 16 by omega) ▸ hsp) (by omega) (by omega) (by omega)).2.2.1) (by kernel_rfl) ?_
            intro v72 I72 w72 le72 h72 s
            replace hT := Tab.mono le72 hT
            replace hle9 := leMono le72 hle9
            replace hle29 := leMono le72 hle29
            replace hi := TRep.mono le72 hi
            replace h67_0 := ERep.mono le72 h67_0
            obtain rfl := h72
            refine ops_rule (C := []) [((φ7 3), .cells #[.bool b, .pointer p, .int .u64 0, .pointer none] 64), ((φ68 0), .cells #[.bool b, .pointer p, .int .u64 ((b67 : Nat) : Int), .pointer p67] 64)] [] 3 [] 0 (fun φ73 => [(4, .bool true), (113, .bool true), (112, .bool true)]) (fun φ73 => [((φ7 3), .cells #[.bool b, .pointer p, .int .u64 0, .pointer none] 64), ((φ68 0), .cells #[.bool b, .pointer p, .int .u64 ((b67 : Nat) : Int), .pointer p67] 64)]) (fun φ73 => []) s trivial (fun φ73 => by kernel_rfl) ?_
            intro φ73 w73 s
            refine ops_done (by kernel_rfl) ?_
            refine wp_ret ?_
            refine ret_rule (C := []) [((φ7 3), .cells #[.bool b, .pointer p, .int .u64 0, .pointer none] 64), ((φ68 0), .cells #[.bool b, .pointer p, .int .u64 ((b67 : Nat) : Int), .pointer p67] 64)] [] (.bool true) [] [] s trivial (by kernel_rfl) ?_
            exact ⟨_, _, _, rfl, s, rfl⟩
    ·
      refine wp_seq ?_
      refine region_rule ?_
      refine ops_rule (C := []) [((φ7 3), .cells #[.bool true, .pointer none, .int .u64 ((X : Nat) : Int), .pointer none] 64)] [] 1 [] 0 (fun φ74 => [(31, .bool (decide (((k : Nat) : Int) < ((4 : Nat) : Int))))]) (fun φ74 => [((φ7 3), .cells #[.bool true, .pointer none, .int .u64 ((X : Nat) : Int), .pointer none] 64)]) (fun φ74 => []) s trivial (fun φ74 => by kernel_rfl) ?_
      intro φ74 w74 s
      rw [nat_lss (a := k) (b := 4)]
      refine ops_done (by kernel_rfl) ?_
      refine wp_seq ?_
      rcases Bool.eq_false_or_eq_true (decide (k < 4)) with hc75 | hc75
      ·
        rw [hc75]
        refine cond_true_rule (b := true) (by kernel_rfl) rfl ?_
        refine wp_skip ?_
        refine wp_seq ?_
        refine wp_block ?_
        refine wp_seq ?_
        refine region_rule ?_
        refine ops_rule (C := []) [((φ7 3), .cells #[.bool true, .pointer none, .int .u64 ((X : Nat) : Int), .pointer none] 64)] [] 2 [] 0 (fun φ76 => [(8, .int .i64 ((k : Nat) : Int)), (32, .int .i64 ((k : Nat) : Int))]) (fun φ76 => [((φ7 3), .cells #[.bool true, .pointer none, .int .u64 ((X : Nat) : Int), .pointer none] 64)]) (fun φ76 => []) s trivial (fun φ76 => by kernel_rfl) ?_
        intro φ76 w76 s
        refine ops_done (by kernel_rfl) ?_
        refine wp_seq ?_
        refine region_rule ?_
        refine ops_rule (C := []) [((φ7 3), .cells #[.bool true, .pointer none, .int .u64 ((X : Nat) : Int), .pointer none] 64)] [] 1 [.o 0, .o 0, .o 0, .o 0] 0 (fun φ77 => [(34, .agg #[.bool true, .pointer none, .int .u64 ((X : Nat) : Int), .pointer none])]) (fun φ77 => [((φ7 3), .cells #[.bool true, .pointer none, .int .u64 ((X : Nat) : Int), .pointer none] 64)]) (fun φ77 => [(φ7 3), (φ7 3), (φ7 3), (φ7 3)]) s trivial (fun φ77 => by kernel_rfl) ?_
        intro φ77 w77 s
        refine call_rule (some 35) s (tickNo_c (X := X) (by have := of_decide_eq_false hc11; omega)) (by kernel_rfl) ?_
        intro v78 I78 w78 le78 h78 s
        replace hT := Tab.mono le78 hT
        replace hle9 := leMono le78 hle9
        obtain rfl := h78
        refine ops_rule (C := []) [((φ7 3), .cells #[.bool true, .pointer none, .int .u64 ((X : Nat) : Int), .pointer none] 64)] [] 6 [.o 1, .o 1, .o 1, .o 1] 1 (fun φ79 => [(10, .int .i64 4), (9, .pointer (some ⟨(φ79 0), 0, none⟩)), (37, .int .i64 4), (36, .agg #[.bool true, .pointer none, .int .u64 ((X : Nat) : Int), .pointer none]), (33, .tuple #[.agg #[.bool true, .pointer none, .int .u64 ((X : Nat) : Int), .pointer none], .int .i64 4])]) (fun φ79 => [((φ7 3), .cells #[.bool true, .pointer none, .int .u64 ((X : Nat) : Int), .pointer none] 64), ((φ79 0), .cells #[.bool true, .pointer none, .int .u64 ((X : Nat) : Int), .pointer none] 64)]) (fun φ79 => [(φ79 0), (φ79 0), (φ79 0), (φ79 0)]) s trivial (fun φ79 => by kernel_rfl) ?_
        intro φ79 w79 s
        refine ops_done (by kernel_rfl) ?_
        refine wp_seq ?_
        refine wp_seq ?_
        refine region_rule ?_
        refine ops_rule (C := []) [((φ7 3), .cells #[.bool true, .pointer none, .int .u64 ((X : Nat) : Int), .pointer none] 64), ((φ79 0), .cells #[.bool true, .pointer none, .int .u64 ((X : Nat) : Int), .pointer none] 64)] [] 7 [] 0 (fun φ80 => [(44, .bool (decide (((k : Nat) : Int) < (IntKind.wrap .i64 (Int.tmod ((n : Nat) : Int) ((3 : Nat) : Int)))))), (43, .int .i64 (IntKind.wrap .i64 (Int.tmod ((n : Nat) : Int) ((3 : Nat) : Int)))), (42, .int .u8 (Int.tmod ((n : Nat) : Int) ((3 : Nat) : Int))), (41, .int .u8 ((n : Nat) : Int)), (40, .int .i64 ((k : Nat) : Int)), (39, .bool false), (38, .int .i64 4)]) (fun φ80 => [((φ7 3), .cells #[.bool true, .pointer none, .int .u64 ((X : Nat) : Int), .pointer none] 64), ((φ79 0), .cells #[.bool true, .pointer none, .int .u64 ((X : Nat) : Int), .pointer none] 64)]) (fun φ80 => []) s trivial (fun φ80 => by kernel_rfl) ?_
        intro φ80 w80 s
        rw [nat_rem (a := n) (b := 3)]
        rw [nat_wrapI (a := (n % 3)) (by omega)]
        rw [nat_lss (a := k) (b := (n % 3))]
        rw [hc11]
        rcases Bool.eq_false_or_eq_true (decide (((k : Nat) : Int) < (IntKind.wrap .i64 (Int.tmod ((n : Nat) : Int) ((3 : Nat) : Int))))) with hc81 | hc81
        ·
          refine ops_rule (C := []) [((φ7 3), .cells #[.bool true, .pointer none, .int .u64 ((X : Nat) : Int), .pointer none] 64), ((φ79 0), .cells #[.bool true, .pointer none, .int .u64 ((X : Nat) : Int), .pointer none] 64)] [] 10 [.o 1, .o 1, .o 1, .o 1, .o 0, .o 0, .o 0, .o 0] 0 (fun φ82 => [(54, .agg #[.bool true, .pointer none, .int .u64 ((X : Nat) : Int), .pointer none]), (53, .agg #[.bool true, .pointer none, .int .u64 ((X : Nat) : Int), .pointer none]), (52, .bool false), (51, .bool false), (50, .int .i64 4), (49, .bool true), (48, .bool true), (47, .int .i64 4), (46, .bool false), (45, .bool false)]) (fun φ82 => [((φ7 3), .cells #[.bool true, .pointer none, .int .u64 ((X : Nat) : Int), .pointer none] 64), ((φ79 0), .cells #[.bool true, .pointer none, .int .u64 ((X : Nat) : Int), .pointer none] 64)]) (fun φ82 => [(φ79 0), (φ79 0), (φ79 0), (φ79 0), (φ7 3), (φ7 3), (φ7 3), (φ7 3)]) s trivial (fun φ82 => by kernel_rfl) ?_
          intro φ82 w82 s
          refine call_rule (some 55) s (ssame1_c (X := X) (by omega)) (by kernel_rfl) ?_
          intro v83 I83 w83 le83 h83 s
          replace hT := Tab.mono le83 hT
          replace hle9 := leMono le83 hle9
          obtain rfl := h83
          refine ops_rule (C := []) [((φ7 3), .cells #[.bool true, .pointer none, .int .u64 ((X : Nat) : Int), .pointer none] 64), ((φ79 0), .cells #[.bool true, .pointer none, .int .u64 ((X : Nat) : Int), .pointer none] 64)] [] 4 [] 0 (fun φ84 => [(59, .bool false), (58, .bool false), (57, .bool false), (56, .bool false)]) (fun φ84 => [((φ7 3), .cells #[.bool true, .pointer none, .int .u64 ((X : Nat) : Int), .pointer none] 64), ((φ79 0), .cells #[.bool true, .pointer none, .int .u64 ((X : Nat) : Int), .pointer none] 64)]) (fun φ84 => []) s trivial (fun φ84 => by kernel_rfl) ?_
          intro φ84 w84 s
          refine ops_done (by kernel_rfl) ?_
          refine cond_false_rule (b := false) (by kernel_rfl) rfl ?_
          refine wp_skip ?_
          refine region_rule ?_
          refine ops_rule (C := []) [((φ7 3), .cells #[.bool true, .pointer none, .int .u64 ((X : Nat) : Int), .pointer none] 64), ((φ79 0), .cells #[.bool true, .pointer none, .int .u64 ((X : Nat) : Int), .pointer none] 64)] [] 2 [.o 1, .o 1, .o 1, .o 1, .o 0, .o 0, .o 0, .o 0] 0 (fun φ85 => [(60, .agg #[.bool true, .pointer none, .int .u64 ((X : Nat) : Int), .pointer none])]) (fun φ85 => [((φ7 3), .cells #[.bool true, .pointer none, .int .u64 ((X : Nat) : Int), .pointer none] 64), ((φ79 0), .cells #[.bool true, .pointer none, .int .u64 ((X : Nat) : Int), .pointer none] 64)]) (fun φ85 => [(φ79 0), (φ79 0), (φ79 0), (φ79 0), (φ7 3), (φ7 3), (φ7 3), (φ7 3)]) s trivial (fun φ85 => by kernel_rfl) ?_
          intro φ85 w85 s
          refine ops_done (by kernel_rfl) ?_
          refine region_rule ?_
          refine ops_rule (C := []) [((φ7 3), .cells #[.bool true, .pointer none, .int .u64 ((X : Nat) : Int), .pointer none] 64), ((φ79 0), .cells #[.bool true, .pointer none, .int .u64 ((X : Nat) : Int), .pointer none] 64)] [] 2 [] 0 (fun φ86 => [(30, .int .i64 (IntKind.wrap .i64 (((k : Nat) : Int) + ((1 : Nat) : Int)))), (61, .int .i64 (IntKind.wrap .i64 (((k : Nat) : Int) + ((1 : Nat) : Int))))]) (fun φ86 => [((φ7 3), .cells #[.bool true, .pointer none, .int .u64 ((X : Nat) : Int), .pointer none] 64), ((φ79 0), .cells #[.bool true, .pointer none, .int .u64 ((X : Nat) : Int), .pointer none] 64)]) (fun φ86 => []) s trivial (fun φ86 => by kernel_rfl) ?_
          intro φ86 w86 s
          rw [nat_addI (a := k) (b := 1) (by omega)]
          refine ops_done (by kernel_rfl) ?_
          have hp := of_decide_eq_false hc11
          have hk4 := of_decide_eq_true hc75
          exact ⟨⟨m - 1, (k + 1, X), _, _, _, by omega, rfl, s, (List.Sublist.cons₂ _ (List.Sublist.cons _ List.Sublist.slnil)), by kernel_rfl, hle9, by simp only; omega, by simp only; omega⟩⟩
        ·
          refine ops_rule (C := []) [((φ7 3), .cells #[.bool true, .pointer none, .int .u64 ((X : Nat) : Int), .pointer none] 64), ((φ79 0), .cells #[.bool true, .pointer none, .int .u64 ((X : Nat) : Int), .pointer none] 64)] [] 10 [.o 1, .o 1, .o 1, .o 1, .o 0, .o 0, .o 0, .o 0] 0 (fun φ87 => [(54, .agg #[.bool true, .pointer none, .int .u64 ((X : Nat) : Int), .pointer none]), (53, .agg #[.bool true, .pointer none, .int .u64 ((X : Nat) : Int), .pointer none]), (52, .bool false), (51, .bool false), (50, .int .i64 4), (49, .bool true), (48, .bool true), (47, .int .i64 4), (46, .bool false), (45, .bool false)]) (fun φ87 => [((φ7 3), .cells #[.bool true, .pointer none, .int .u64 ((X : Nat) : Int), .pointer none] 64), ((φ79 0), .cells #[.bool true, .pointer none, .int .u64 ((X : Nat) : Int), .pointer none] 64)]) (fun φ87 => [(φ79 0), (φ79 0), (φ79 0), (φ79 0), (φ7 3), (φ7 3), (φ7 3), (φ7 3)]) s trivial (fun φ87 => by kernel_rfl) ?_
          intro φ87 w87 s
          refine call_rule (some 55) s (ssame1_c (X := X) (by omega)) (by kernel_rfl) ?_
          intro v88 I88 w88 le88 h88 s
          replace hT := Tab.mono le88 hT
          replace hle9 := leMono le88 hle9
          obtain rfl := h88
          refine ops_rule (C := []) [((φ7 3), .cells #[.bool true, .pointer none, .int .u64 ((X : Nat) : Int), .pointer none] 64), ((φ79 0), .cells #[.bool true, .pointer none, .int .u64 ((X : Nat) : Int), .pointer none] 64)] [] 4 [] 0 (fun φ89 => [(59, .bool false), (58, .bool false), (57, .bool false), (56, .bool false)]) (fun φ89 => [((φ7 3), .cells #[.bool true, .pointer none, .int .u64 ((X : Nat) : Int), .pointer none] 64), ((φ79 0), .cells #[.bool true, .pointer none, .int .u64 ((X : Nat) : Int), .pointer none] 64)]) (fun φ89 => []) s trivial (fun φ89 => by kernel_rfl) ?_
          intro φ89 w89 s
          refine ops_done (by kernel_rfl) ?_
          refine cond_false_rule (b := false) (by kernel_rfl) rfl ?_
          refine wp_skip ?_
          refine region_rule ?_
          refine ops_rule (C := []) [((φ7 3), .cells #[.bool true, .pointer none, .int .u64 ((X : Nat) : Int), .pointer none] 64), ((φ79 0), .cells #[.bool true, .pointer none, .int .u64 ((X : Nat) : Int), .pointer none] 64)] [] 2 [.o 1, .o 1, .o 1, .o 1, .o 0, .o 0, .o 0, .o 0] 0 (fun φ90 => [(60, .agg #[.bool true, .pointer none, .int .u64 ((X : Nat) : Int), .pointer none])]) (fun φ90 => [((φ7 3), .cells #[.bool true, .pointer none, .int .u64 ((X : Nat) : Int), .pointer none] 64), ((φ79 0), .cells #[.bool true, .pointer none, .int .u64 ((X : Nat) : Int), .pointer none] 64)]) (fun φ90 => [(φ79 0), (φ79 0), (φ79 0), (φ79 0), (φ7 3), (φ7 3), (φ7 3), (φ7 3)]) s trivial (fun φ90 => by kernel_rfl) ?_
          intro φ90 w90 s
          refine ops_done (by kernel_rfl) ?_
          refine region_rule ?_
          refine ops_rule (C := []) [((φ7 3), .cells #[.bool true, .pointer none, .int .u64 ((X : Nat) : Int), .pointer none] 64), ((φ79 0), .cells #[.bool true, .pointer none, .int .u64 ((X : Nat) : Int), .pointer none] 64)] [] 2 [] 0 (fun φ91 => [(30, .int .i64 (IntKind.wrap .i64 (((k : Nat) : Int) + ((1 : Nat) : Int)))), (61, .int .i64 (IntKind.wrap .i64 (((k : Nat) : Int) + ((1 : Nat) : Int))))]) (fun φ91 => [((φ7 3), .cells #[.bool true, .pointer none, .int .u64 ((X : Nat) : Int), .pointer none] 64), ((φ79 0), .cells #[.bool true, .pointer none, .int .u64 ((X : Nat) : Int), .pointer none] 64)]) (fun φ91 => []) s trivial (fun φ91 => by kernel_rfl) ?_
          intro φ91 w91 s
          rw [nat_addI (a := k) (b := 1) (by omega)]
          refine ops_done (by kernel_rfl) ?_
          have hp := of_decide_eq_false hc11
          have hk4 := of_decide_eq_true hc75
          exact ⟨⟨m - 1, (k + 1, X), _, _, _, by omega, rfl, s, (List.Sublist.cons₂ _ (List.Sublist.cons _ List.Sublist.slnil)), by kernel_rfl, hle9, by simp only; omega, by simp only; omega⟩⟩
      ·
        rw [hc75]
        refine cond_false_rule (b := false) (by kernel_rfl) rfl ?_
        refine wp_exit ?_
        refine wp_seq ?_
        refine region_rule ?_
        refine call_rule (some 62) s (seed_c) (by kernel_rfl) ?_
        intro v92 I92 w92 le92 h92 s
        replace hT := Tab.mono le92 hT
        replace hle9 := leMono le92 hle9
        obtain rfl := h92
        refine ops_rule (C := []) [((φ7 3), .cells #[.bool true, .pointer none, .int .u64 ((X : Nat) : Int), .pointer none] 64)] [] 1 [.o 0, .o 0, .o 0, .o 0] 0 (fun φ93 => []) (fun φ93 => [((φ7 3), .cells #[.bool true, .pointer none, .int .u64 0, .pointer none] 64)]) (fun φ93 => [(φ7 3), (φ7 3), (φ7 3), (φ7 3)]) s trivial (fun φ93 => by kernel_rfl) ?_
        intro φ93 w93 s
        refine ops_done (by kernel_rfl) ?_
        refine wp_seq ?_
        refine wp_seq ?_
        refine region_rule ?_
        refine ops_rule (C := []) [((φ7 3), .cells #[.bool true, .pointer none, .int .u64 0, .pointer none] 64)] [] 1 [] 0 (fun φ94 => [(63, .int .i64 0)]) (fun φ94 => [((φ7 3), .cells #[.bool true, .pointer none, .int .u64 0, .pointer none] 64)]) (fun φ94 => []) s trivial (fun φ94 => by kernel_rfl) ?_
        intro φ94 w94 s
        refine ops_done (by kernel_rfl) ?_
        refine wp_block ?_
        have hle95 := IM.Le.refl I92
        refine loop_rule (fun (x : Nat × T × Bool × Option Addr) => [(0, .int .u8 ((n : Nat) : Int)), (1, .int .u16 ((turns : Nat) : Int)), (4, .bool false), (7, .pointer (some ⟨(φ7 3), 0, none⟩)), (63, .int .i64 ((x.1 : Nat) : Int))]) (fun (x : Nat × T × Bool × Option Addr) => [((φ7 3), .cells #[.bool x.2.2.1, .pointer x.2.2.2, .int .u64 0, .pointer none] 64)]) (fun m (x : Nat × T × Bool × Option Addr) J => IM.Le I92 J ∧ x.1 + m = 18 ∧ Spine (min x.1 16) x.2.1 ∧ TRep J x.2.1 x.2.2.1 x.2.2.2) 18 (0, T.one, true, none) s (by kernel_rfl) (List.Sublist.cons₂ _ List.Sublist.slnil) ⟨IM.Le.refl _, rfl, rfl, rfl, rfl⟩ ?_
        rintro m ⟨k, i, b, p⟩ I96 w96 evj s ⟨le96, hm, hsp, hi⟩
        dsimp only at s hm hsp hi ⊢
        replace hT := Tab.mono le96 hT
        replace hle9 := leMono le96 hle9
        replace hle95 := leMono le96 hle95
        rcases Bool.eq_false_or_eq_true (decide (k < 16)) with hc97 | hc97
        ·
          refine wp_seq ?_
          refine region_rule ?_
          refine ops_rule (C := []) [((φ7 3), .cells #[.bool b, .pointer p, .int .u64 0, .pointer none] 64)] [] 1 [] 0 (fun φ98 => [(64, .bool (decide (((k : Nat) : Int) < ((18 : Nat) : Int))))]) (fun φ98 => [((φ7 3), .cells #[.bool b, .pointer p, .int .u64 0, .pointer none] 64)]) (fun φ98 => []) s trivial (fun φ98 => by kernel_rfl) ?_
          intro φ98 w98 s
          rw [nat_lss (a := k) (b := 18)]
          refine ops_done (by kernel_rfl) ?_
          refine wp_seq ?_
          rcases Bool.eq_false_or_eq_true (decide (k < 18)) with hc99 | hc99
          ·
            rw [hc99]
            refine cond_true_rule (b := true) (by kernel_rfl) rfl ?_
            refine wp_skip ?_
            refine wp_seq ?_
            refine wp_block ?_
            refine wp_seq ?_
            refine region_rule ?_
            refine ops_rule (C := []) [((φ7 3), .cells #[.bool b, .pointer p, .int .u64 0, .pointer none] 64)] [] 2 [] 0 (fun φ100 => [(11, .int .i64 ((k : Nat) : Int)), (65, .int .i64 ((k : Nat) : Int))]) (fun φ100 => [((φ7 3), .cells #[.bool b, .pointer p, .int .u64 0, .pointer none] 64)]) (fun φ100 => []) s trivial (fun φ100 => by kernel_rfl) ?_
            intro φ100 w100 s
            refine ops_done (by kernel_rfl) ?_
            refine wp_seq ?_
            refine region_rule ?_
            refine ops_rule (C := []) [((φ7 3), .cells #[.bool b, .pointer p, .int .u64 0, .pointer none] 64)] [] 1 [.o 0, .o 0, .o 0, .o 0] 0 (fun φ101 => [(67, .agg #[.bool b, .pointer p, .int .u64 0, .pointer none])]) (fun φ101 => [((φ7 3), .cells #[.bool b, .pointer p, .int .u64 0, .pointer none] 64)]) (fun φ101 => [(φ7 3), (φ7 3), (φ7 3), (φ7 3)]) s trivial (fun φ101 => by kernel_rfl) ?_
            intro φ101 w101 s
            refine call_rule (some 68) s (forkOk_c (k := k) (of_decide_eq_true hc97) ((show min k 16 = k by have := of_decide_eq_true hc97; omega) ▸ hsp) hi) (by kernel_rfl) ?_
            intro v102 I102 w102 le102 h102 s
            replace hT := Tab.mono le102 hT
            replace hle9 := leMono le102 hle9
            replace hle95 := leMono le102 hle95
            replace hi := TRep.mono le102 hi
            obtain ⟨b102, p102, b2102, p2102, rfl, h102_0, h102_1⟩ := h102
            refine ops_rule (C := []) [((φ7 3), .cells #[.bool b, .pointer p, .int .u64 0, .pointer none] 64)] [] 9 [.o 1, .o 1, .o 1, .o 1, .o 2, .o 2, .o 2, .o 2] 2 (fun φ103 => [(14, .int .i64 0), (13, .pointer (some ⟨(φ103 1), 0, none⟩)), (12, .pointer (some ⟨(φ103 0), 0, none⟩)), (71, .int .i64 0), (70, .agg #[.bool b2102, .pointer p2102, .int .u64 0, .pointer none]), (69, .agg #[.bool b102, .pointer p102, .int .u64 0, .pointer none]), (66, .tuple #[.agg #[.bool b102, .pointer p102, .int .u64 0, .pointer none], .agg #[.bool b2102, .pointer p2102, .int .u64 0, .pointer none], .int .i64 0])]) (fun φ103 => [((φ7 3), .cells #[.bool b, .pointer p, .int .u64 0, .pointer none] 64), ((φ103 0), .cells #[.bool b102, .pointer p102, .int .u64 0, .pointer none] 64), ((φ103 1), .cells #[.bool b2102, .pointer p2102, .int .u64 0, .pointer none] 64)]) (fun φ103 => [(φ103 0), (φ103 0), (φ103 0), (φ103 0), (φ103 1), (φ103 1), (φ103 1), (φ103 1)]) s trivial (fun φ103 => by kernel_rfl) ?_
            intro φ103 w103 s
            refine ops_done (by kernel_rfl) ?_
            refine wp_seq ?_
            refine wp_seq ?_
            refine region_rule ?_
            refine ops_rule (C := []) [((φ7 3), .cells #[.bool b, .pointer p, .int .u64 0, .pointer none] 64), ((φ103 0), .cells #[.bool b102, .pointer p102, .int .u64 0, .pointer none] 64), ((φ103 1), .cells #[.bool b2102, .pointer p2102, .int .u64 0, .pointer none] 64)] [] 4 [] 0 (fun φ104 => [(75, .bool (decide (((k : Nat) : Int) < ((16 : Nat) : Int)))), (74, .int .i64 ((k : Nat) : Int)), (73, .bool true), (72, .int .i64 0)]) (fun φ104 => [((φ7 3), .cells #[.bool b, .pointer p, .int .u64 0, .pointer none] 64), ((φ103 0), .cells #[.bool b102, .pointer p102, .int .u64 0, .pointer none] 64), ((φ103 1), .cells #[.bool b2102, .pointer p2102, .int .u64 0, .pointer none] 64)]) (fun φ104 => []) s trivial (fun φ104 => by kernel_rfl) ?_
            intro φ104 w104 s
            rw [nat_lss (a := k) (b := 16)]
            rw [hc97]
            refine ops_rule (C := []) [((φ7 3), .cells #[.bool b, .pointer p, .int .u64 0, .pointer none] 64), ((φ103 0), .cells #[.bool b102, .pointer p102, .int .u64 0, .pointer none] 64), ((φ103 1), .cells #[.bool b2102, .pointer p2102, .int .u64 0, .pointer none] 64)] [] 9 [] 0 (fun φ105 => [(84, .bool false), (83, .bool false), (82, undef), (81, undef), (80, .bool false), (79, .bool false), (78, .int .i64 0), (77, .bool false), (76, .bool false)]) (fun φ105 => [((φ7 3), .cells #[.bool b, .pointer p, .int .u64 0, .pointer none] 64), ((φ103 0), .cells #[.bool b102, .pointer p102, .int .u64 0, .pointer none] 64), ((φ103 1), .cells #[.bool b2102, .pointer p2102, .int .u64 0, .pointer none] 64)]) (fun φ105 => []) s trivial (fun φ105 => by kernel_rfl) ?_
            intro φ105 w105 s
            refine ops_done (by kernel_rfl) ?_
            refine cond_false_rule (b := false) (by kernel_rfl) rfl ?_
            refine wp_skip ?_
            refine wp_seq ?_
            refine wp_seq ?_
            refine region_rule ?_
            refine ops_rule (C := []) [((φ7 3), .cells #[.bool b, .pointer p, .int .u64 0, .pointer none] 64), ((φ103 0), .cells #[.bool b102, .pointer p102, .int .u64 0, .pointer none] 64), ((φ103 1), .cells #[.bool b2102, .pointer p2102, .int .u64 0, .pointer none] 64)] [] 2 [] 0 (fun φ106 => [(86, .bool false), (85, .int .i64 0)]) (fun φ106 => [((φ7 3), .cells #[.bool b, .pointer p, .int .u64 0, .pointer none] 64), ((φ103 0), .cells #[.bool b102, .pointer p102, .int .u64 0, .pointer none] 64), ((φ103 1), .cells #[.bool b2102, .pointer p2102, .int .u64 0, .pointer none] 64)]) (fun φ106 => []) s trivial (fun φ106 => by kernel_rfl) ?_
            intro φ106 w106 s
            refine ops_done (by kernel_rfl) ?_
            refine cond_false_rule (b := false) (by kernel_rfl) rfl ?_
            refine wp_skip ?_
            refine wp_seq ?_
            refine region_rule ?_
            refine ops_rule (C := []) [((φ7 3), .cells #[.bool b, .pointer p, .int .u64 0, .pointer none] 64), ((φ103 0), .cells #[.bool b102, .pointer p102, .int .u64 0, .pointer none] 64), ((φ103 1), .cells #[.bool b2102, .pointer p2102, .int .u64 0, .pointer none] 64)] [] 2 [.o 1, .o 1, .o 1, .o 1, .o 0, .o 0, .o 0, .o 0] 0 (fun φ107 => [(87, .agg #[.bool b102, .pointer p102, .int .u64 0, .pointer none])]) (fun φ107 => [((φ7 3), .cells #[.bool b102, .pointer p102, .int .u64 0, .pointer none] 64), ((φ103 0), .cells #[.bool b102, .pointer p102, .int .u64 0, .pointer none] 64), ((φ103 1), .cells #[.bool b2102, .pointer p2102, .int .u64 0, .pointer none] 64)]) (fun φ107 => [(φ103 0), (φ103 0), (φ103 0), (φ103 0), (φ7 3), (φ7 3), (φ7 3), (φ7 3)]) s trivial (fun φ107 => by kernel_rfl) ?_
            intro φ107 w107 s
            refine ops_done (by kernel_rfl) ?_
            refine wp_seq ?_
            refine region_rule ?_
            refine ops_rule (C := []) [((φ7 3), .cells #[.bool b102, .pointer p102, .int .u64 0, .pointer none] 64), ((φ103 0), .cells #[.bool b102, .pointer p102, .int .u64 0, .pointer none] 64), ((φ103 1), .cells #[.bool b2102, .pointer p2102, .int .u64 0, .pointer none] 64)] [] 2 [] 0 (fun φ108 => [(89, .int .i64 ((k : Nat) : Int)), (88, .int .u16 ((turns : Nat) : Int))]) (fun φ108 => [((φ7 3), .cells #[.bool b102, .pointer p102, .int .u64 0, .pointer none] 64), ((φ103 0), .cells #[.bool b102, .pointer p102, .int .u64 0, .pointer none] 64), ((φ103 1), .cells #[.bool b2102, .pointer p2102, .int .u64 0, .pointer none] 64)]) (fun φ108 => []) s trivial (fun φ108 => by kernel_rfl) ?_
            intro φ108 w108 s
            refine sem_rule (binOp .shr 102 (.int .u16 ((turns : Nat) : Int)) (.int .i64 ((k : Nat) : Int))) (some 90) (.int .u16 (Int.fdiv ((turns : Nat) : Int) (2 ^ min k 16))) (by kernel_rfl) run_shr ?_
            refine ops_rule (C := []) [((φ7 3), .cells #[.bool b102, .pointer p102, .int .u64 0, .pointer none] 64), ((φ103 0), .cells #[.bool b102, .pointer p102, .int .u64 0, .pointer none] 64), ((φ103 1), .cells #[.bool b2102, .pointer p2102, .int .u64 0, .pointer none] 64)] [] 2 [] 0 (fun φ109 => [(92, .bool ((Int.tmod (Int.fdiv ((turns : Nat) : Int) (2 ^ min k 16)) ((2 : Nat) : Int)) == ((1 : Nat) : Int))), (91, .int .u16 (Int.tmod (Int.fdiv ((turns : Nat) : Int) (2 ^ min k 16)) ((2 : Nat) : Int)))]) (fun φ109 => [((φ7 3), .cells #[.bool b102, .pointer p102, .int .u64 0, .pointer none] 64), ((φ103 0), .cells #[.bool b102, .pointer p102, .int .u64 0, .pointer none] 64), ((φ103 1), .cells #[.bool b2102, .pointer p2102, .int .u64 0, .pointer none] 64)]) (fun φ109 => []) s trivial (fun φ109 => by kernel_rfl) ?_
            intro φ109 w109 s
            refine ops_done (by kernel_rfl) ?_
            rcases Bool.eq_false_or_eq_true ((Int.tmod (Int.fdiv ((turns : Nat) : Int) (2 ^ min k 16)) ((2 : Nat) : Int)) == ((1 : Nat) : Int)) with hc110 | hc110
            ·
              rw [hc110]
              refine cond_true_rule (b := true) (by kernel_rfl) rfl ?_
              refine region_rule ?_
              refine ops_rule (C := []) [((φ7 3), .cells #[.bool b102, .pointer p102, .int .u64 0, .pointer none] 64), ((φ103 0), .cells #[.bool b102, .pointer p102, .int .u64 0, .pointer none] 64), ((φ103 1), .cells #[.bool b2102, .pointer p2102, .int .u64 0, .pointer none] 64)] [] 2 [.o 2, .o 2, .o 2, .o 2, .o 0, .o 0, .o 0, .o 0] 0 (fun φ111 => [(93, .agg #[.bool b2102, .pointer p2102, .int .u64 0, .pointer none])]) (fun φ111 => [((φ7 3), .cells #[.bool b2102, .pointer p2102, .int .u64 0, .pointer none] 64), ((φ103 0), .cells #[.bool b102, .pointer p102, .int .u64 0, .pointer none] 64), ((φ103 1), .cells #[.bool b2102, .pointer p2102, .int .u64 0, .pointer none] 64)]) (fun φ111 => [(φ103 1), (φ103 1), (φ103 1), (φ103 1), (φ7 3), (φ7 3), (φ7 3), (φ7 3)]) s trivial (fun φ111 => by kernel_rfl) ?_
              intro φ111 w111 s
              refine ops_done (by kernel_rfl) ?_
              refine region_rule ?_
              refine ops_rule (C := []) [((φ7 3), .cells #[.bool b2102, .pointer p2102, .int .u64 0, .pointer none] 64), ((φ103 0), .cells #[.bool b102, .pointer p102, .int .u64 0, .pointer none] 64), ((φ103 1), .cells #[.bool b2102, .pointer p2102, .int .u64 0, .pointer none] 64)] [] 2 [] 0 (fun φ112 => [(63, .int .i64 (IntKind.wrap .i64 (((k : Nat) : Int) + ((1 : Nat) : Int)))), (94, .int .i64 (IntKind.wrap .i64 (((k : Nat) : Int) + ((1 : Nat) : Int))))]) (fun φ112 => [((φ7 3), .cells #[.bool b2102, .pointer p2102, .int .u64 0, .pointer none] 64), ((φ103 0), .cells #[.bool b102, .pointer p102, .int .u64 0, .pointer none] 64), ((φ103 1), .cells #[.bool b2102, .pointer p2102, .int .u64 0, .pointer none] 64)]) (fun φ112 => []) s trivial (fun φ112 => by kernel_rfl) ?_
              intro φ112 w112 s
              rw [nat_addI (a := k) (b := 1) (by omega)]
              refine ops_done (by kernel_rfl) ?_
              have hk18 := of_decide_eq_true hc99
              exact ⟨⟨m - 1, (k + 1, (cutT i).2, b2102, p2102), _, _, _, by omega, rfl, s, (List.Sublist.cons₂ _ (List.Sublist.cons _ (List.Sublist.cons _ List.Sublist.slnil))), by kernel_rfl, hle95, by simp only; omega, (by have h16 := of_decide_eq_true hc97; rw [show min (k + 1) 16 = k + 1 by omega]; exact ((show min k 16 = k by omega) ▸ hsp : Spine k i).cut.2), h102_1⟩⟩
            ·
              rw [hc110]
              refine cond_false_rule (b := false) (by kernel_rfl) rfl ?_
              refine wp_skip ?_
              refine region_rule ?_
              refine ops_rule (C := []) [((φ7 3), .cells #[.bool b102, .pointer p102, .int .u64 0, .pointer none] 64), ((φ103 0), .cells #[.bool b102, .pointer p102, .int .u64 0, .pointer none] 64), ((φ103 1), .cells #[.bool b2102, .pointer p2102, .int .u64 0, .pointer none] 64)] [] 2 [] 0 (fun φ113 => [(63, .int .i64 (IntKind.wrap .i64 (((k : Nat) : Int) + ((1 : Nat) : Int)))), (94, .int .i64 (IntKind.wrap .i64 (((k : Nat) : Int) + ((1 : Nat) : Int))))]) (fun φ113 => [((φ7 3), .cells #[.bool b102, .pointer p102, .int .u64 0, .pointer none] 64), ((φ103 0), .cells #[.bool b102, .pointer p102, .int .u64 0, .pointer none] 64), ((φ103 1), .cells #[.bool b2102, .pointer p2102, .int .u64 0, .pointer none] 64)]) (fun φ113 => []) s trivial (fun φ113 => by kernel_rfl) ?_
              intro φ113 w113 s
              rw [nat_addI (a := k) (b := 1) (by omega)]
              refine ops_done (by kernel_rfl) ?_
              have hk18 := of_decide_eq_true hc99
              exact ⟨⟨m - 1, (k + 1, (cutT i).1, b102, p102), _, _, _, by omega, rfl, s, (List.Sublist.cons₂ _ (List.Sublist.cons _ (List.Sublist.cons _ List.Sublist.slnil))), by kernel_rfl, hle95, by simp only; omega, (by have h16 := of_decide_eq_true hc97; rw [show min (k + 1) 16 = k + 1 by omega]; exact ((show min k 16 = k by omega) ▸ hsp : Spine k i).cut.1), h102_0⟩⟩
          ·
            rw [hc99]
            refine cond_false_rule (b := false) (by kernel_rfl) rfl ?_
            refine wp_exit ?_
            refine wp_seq ?_
            refine region_rule ?_
            refine ops_rule (C := []) [((φ7 3), .cells #[.bool b, .pointer p, .int .u64 0, .pointer none] 64)] [] 1 [.o 0, .o 0, .o 0, .o 0] 0 (fun φ114 => [(96, .agg #[.bool b, .pointer p, .int .u64 0, .pointer none])]) (fun φ114 => [((φ7 3), .cells #[.bool b, .pointer p, .int .u64 0, .pointer none] 64)]) (fun φ114 => [(φ7 3), (φ7 3), (φ7 3), (φ7 3)]) s trivial (fun φ114 => by kernel_rfl) ?_
            intro φ114 w114 s
            refine call_rule (some 97) s (tickSpine_c (by have := of_decide_eq_false hc99; exact (show min k 16 = 16 by omega) ▸ hsp) hi) (by kernel_rfl) ?_
            intro v115 I115 w115 le115 h115 s
            replace hT := Tab.mono le115 hT
            replace hle9 := leMono le115 hle9
            replace hle95 := leMono le115 hle95
            replace hi := TRep.mono le115 hi
            obtain ⟨b115, p115, rfl, h115_0⟩ := h115
            refine ops_rule (C := []) [((φ7 3), .cells #[.bool b, .pointer p, .int .u64 0, .pointer none] 64)] [] 6 [.o 1, .o 1, .o 1, .o 1] 1 (fun φ116 => [(16, .int .i64 0), (15, .pointer (some ⟨(φ116 0), 0, none⟩)), (99, .int .i64 0), (98, .agg #[.bool b, .pointer p, .int .u64 ((b115 : Nat) : Int), .pointer p115]), (95, .tuple #[.agg #[.bool b, .pointer p, .int .u64 ((b115 : Nat) : Int), .pointer p115], .int .i64 0])]) (fun φ116 => [((φ7 3), .cells #[.bool b, .pointer p, .int .u64 0, .pointer none] 64), ((φ116 0), .cells #[.bool b, .pointer p, .int .u64 ((b115 : Nat) : Int), .pointer p115] 64)]) (fun φ116 => [(φ116 0), (φ116 0), (φ116 0), (φ116 0)]) s trivial (fun φ116 => by kernel_rfl) ?_
            intro φ116 w116 s
            refine ops_done (by kernel_rfl) ?_
            refine wp_seq ?_
            refine region_rule ?_
            refine ops_rule (C := []) [((φ7 3), .cells #[.bool b, .pointer p, .int .u64 0, .pointer none] 64), ((φ116 0), .cells #[.bool b, .pointer p, .int .u64 ((b115 : Nat) : Int), .pointer p115] 64)] [] 5 [.o 1, .o 1] 0 (fun φ117 => [(104, .agg #[.int .u64 ((b115 : Nat) : Int), .pointer p115]), (103, .pointer (some ⟨(φ116 0), 2, none⟩)), (102, .bool true), (101, .bool true), (100, .int .i64 0)]) (fun φ117 => [((φ7 3), .cells #[.bool b, .pointer p, .int .u64 0, .pointer none] 64), ((φ116 0), .cells #[.bool b, .pointer p, .int .u64 ((b115 : Nat) : Int), .pointer p115] 64)]) (fun φ117 => [(φ116 0), (φ116 0)]) s trivial (fun φ117 => by kernel_rfl) ?_
            intro φ117 w117 s
            refine call_rule (some 105) s (depth16_c h115_0 (spine_grow 40 16 (by have := of_decide_eq_false hc99; exact (show min k 16 = 16 by omega) ▸ hsp) (by omega) (by omega) (by omega)).2.1) (by kernel_rfl) ?_
            intro v118 I118 w118 le118 h118 s
            replace hT := Tab.mono le118 hT
            replace hle9 := leMono le118 hle9
            replace hle95 := leMono le118 hle95
            replace hi := TRep.mono le118 hi
            replace h115_0 := ERep.mono le118 h115_0
            obtain rfl := h118
            refine ops_rule (C := []) [((φ7 3), .cells #[.bool b, .pointer p, .int .u64 0, .pointer none] 64), ((φ116 0), .cells #[.bool b, .pointer p, .int .u64 ((b115 : Nat) : Int), .pointer p115] 64)] [] 5 [.o 1, .o 1] 0 (fun φ119 => [(110, .agg #[.int .u64 ((b115 : Nat) : Int), .pointer p115]), (109, .pointer (some ⟨(φ116 0), 2, none⟩)), (108, .bool true), (107, .bool true), (106, .bool true)]) (fun φ119 => [((φ7 3), .cells #[.bool b, .pointer p, .int .u64 0, .pointer none] 64), ((φ116 0), .cells #[.bool b, .pointer p, .int .u64 ((b115 : Nat) : Int), .pointer p115] 64)]) (fun φ119 => [(φ116 0), (φ116 0)]) s trivial (fun φ119 => by kernel_rfl) ?_
            intro φ119 w119 s
            refine call_rule (some 111) s (max1_c h115_0 (spine_grow 40 16 (by have := of_decide_eq_false hc99; exact (show min k 16 = 16 by omega) ▸ hsp) (by omega) (by omega) (by omega)).2.2.1) (by kernel_rfl) ?_
            intro v120 I120 w120 le120 h120 s
            replace hT := Tab.mono le120 hT
            replace hle9 := leMono le120 hle9
            replace hle95 := leMono le120 hle95
            replace hi := TRep.mono le120 hi
            replace h115_0 := ERep.mono le120 h115_0
            obtain rfl := h120
            refine ops_rule (C := []) [((φ7 3), .cells #[.bool b, .pointer p, .int .u64 0, .pointer none] 64), ((φ116 0), .cells #[.bool b, .pointer p, .int .u64 ((b115 : Nat) : Int), .pointer p115] 64)] [] 3 [] 0 (fun φ121 => [(4, .bool true), (113, .bool true), (112, .bool true)]) (fun φ121 => [((φ7 3), .cells #[.bool b, .pointer p, .int .u64 0, .pointer none] 64), ((φ116 0), .cells #[.bool b, .pointer p, .int .u64 ((b115 : Nat) : Int), .pointer p115] 64)]) (fun φ121 => []) s trivial (fun φ121 => by kernel_rfl) ?_
            intro φ121 w121 s
            refine ops_done (by kernel_rfl) ?_
            refine wp_ret ?_
            refine ret_rule (C := []) [((φ7 3), .cells #[.bool b, .pointer p, .int .u64 0, .pointer none] 64), ((φ116 0), .cells #[.bool b, .pointer p, .int .u64 ((b115 : Nat) : Int), .pointer p115] 64)] [] (.bool true) [] [] s trivial (by kernel_rfl) ?_
            exact ⟨_, _, _, rfl, s, rfl⟩
        ·
          refine wp_seq ?_
          refine region_rule ?_
          refine ops_rule (C := []) [((φ7 3), .cells #[.bool b, .pointer p, .int .u64 0, .pointer none] 64)] [] 1 [] 0 (fun φ122 => [(64, .bool (decide (((k : Nat) : Int) < ((18 : Nat) : Int))))]) (fun φ122 => [((φ7 3), .cells #[.bool b, .pointer p, .int .u64 0, .pointer none] 64)]) (fun φ122 => []) s trivial (fun φ122 => by kernel_rfl) ?_
          intro φ122 w122 s
          rw [nat_lss (a := k) (b := 18)]
          refine ops_done (by kernel_rfl) ?_
          refine wp_seq ?_
          rcases Bool.eq_false_or_eq_true (decide (k < 18)) with hc123 | hc123
          ·
            rw [hc123]
            refine cond_true_rule (b := true) (by kernel_rfl) rfl ?_
            refine wp_skip ?_
            refine wp_seq ?_
            refine wp_block ?_
            refine wp_seq ?_
            refine region_rule ?_
            refine ops_rule (C := []) [((φ7 3), .cells #[.bool b, .pointer p, .int .u64 0, .pointer none] 64)] [] 2 [] 0 (fun φ124 => [(11, .int .i64 ((k : Nat) : Int)), (65, .int .i64 ((k : Nat) : Int))]) (fun φ124 => [((φ7 3), .cells #[.bool b, .pointer p, .int .u64 0, .pointer none] 64)]) (fun φ124 => []) s trivial (fun φ124 => by kernel_rfl) ?_
            intro φ124 w124 s
            refine ops_done (by kernel_rfl) ?_
            refine wp_seq ?_
            refine region_rule ?_
            refine ops_rule (C := []) [((φ7 3), .cells #[.bool b, .pointer p, .int .u64 0, .pointer none] 64)] [] 1 [.o 0, .o 0, .o 0, .o 0] 0 (fun φ125 => [(67, .agg #[.bool b, .pointer p, .int .u64 0, .pointer none])]) (fun φ125 => [((φ7 3), .cells #[.bool b, .pointer p, .int .u64 0, .pointer none] 64)]) (fun φ125 => [(φ7 3), (φ7 3), (φ7 3), (φ7 3)]) s trivial (fun φ125 => by kernel_rfl) ?_
            intro φ125 w125 s
            refine call_rule (some 68) s (forkNo_c ((show min k 16 = 16 by have := of_decide_eq_false hc97; omega) ▸ hsp) hi) (by kernel_rfl) ?_
            intro v126 I126 w126 le126 h126 s
            replace hT := Tab.mono le126 hT
            replace hle9 := leMono le126 hle9
            replace hle95 := leMono le126 hle95
            replace hi := TRep.mono le126 hi
            obtain rfl := h126
            refine ops_rule (C := []) [((φ7 3), .cells #[.bool b, .pointer p, .int .u64 0, .pointer none] 64)] [] 9 [.o 1, .o 1, .o 1, .o 1, .o 2, .o 2, .o 2, .o 2] 2 (fun φ127 => [(14, .int .i64 3), (13, .pointer (some ⟨(φ127 1), 0, none⟩)), (12, .pointer (some ⟨(φ127 0), 0, none⟩)), (71, .int .i64 3), (70, .agg #[.bool false, .pointer none, .int .u64 0, .pointer none]), (69, .agg #[.bool false, .pointer none, .int .u64 0, .pointer none]), (66, .tuple #[.agg #[.bool false, .pointer none, .int .u64 0, .pointer none], .agg #[.bool false, .pointer none, .int .u64 0, .pointer none], .int .i64 3])]) (fun φ127 => [((φ7 3), .cells #[.bool b, .pointer p, .int .u64 0, .pointer none] 64), ((φ127 0), .cells #[.bool false, .pointer none, .int .u64 0, .pointer none] 64), ((φ127 1), .cells #[.bool false, .pointer none, .int .u64 0, .pointer none] 64)]) (fun φ127 => [(φ127 0), (φ127 0), (φ127 0), (φ127 0), (φ127 1), (φ127 1), (φ127 1), (φ127 1)]) s trivial (fun φ127 => by kernel_rfl) ?_
            intro φ127 w127 s
            refine ops_done (by kernel_rfl) ?_
            refine wp_seq ?_
            refine wp_seq ?_
            refine region_rule ?_
            refine ops_rule (C := []) [((φ7 3), .cells #[.bool b, .pointer p, .int .u64 0, .pointer none] 64), ((φ127 0), .cells #[.bool false, .pointer none, .int .u64 0, .pointer none] 64), ((φ127 1), .cells #[.bool false, .pointer none, .int .u64 0, .pointer none] 64)] [] 4 [] 0 (fun φ128 => [(75, .bool (decide (((k : Nat) : Int) < ((16 : Nat) : Int)))), (74, .int .i64 ((k : Nat) : Int)), (73, .bool false), (72, .int .i64 3)]) (fun φ128 => [((φ7 3), .cells #[.bool b, .pointer p, .int .u64 0, .pointer none] 64), ((φ127 0), .cells #[.bool false, .pointer none, .int .u64 0, .pointer none] 64), ((φ127 1), .cells #[.bool false, .pointer none, .int .u64 0, .pointer none] 64)]) (fun φ128 => []) s trivial (fun φ128 => by kernel_rfl) ?_
            intro φ128 w128 s
            rw [nat_lss (a := k) (b := 16)]
            rw [hc97]
            refine ops_rule (C := []) [((φ7 3), .cells #[.bool b, .pointer p, .int .u64 0, .pointer none] 64), ((φ127 0), .cells #[.bool false, .pointer none, .int .u64 0, .pointer none] 64), ((φ127 1), .cells #[.bool false, .pointer none, .int .u64 0, .pointer none] 64)] [] 9 [] 0 (fun φ129 => [(84, .bool false), (83, .bool false), (82, .bool false), (81, .int .i64 3), (80, .bool true), (79, .bool true), (78, .int .i64 3), (77, .bool false), (76, .bool false)]) (fun φ129 => [((φ7 3), .cells #[.bool b, .pointer p, .int .u64 0, .pointer none] 64), ((φ127 0), .cells #[.bool false, .pointer none, .int .u64 0, .pointer none] 64), ((φ127 1), .cells #[.bool false, .pointer none, .int .u64 0, .pointer none] 64)]) (fun φ129 => []) s trivial (fun φ129 => by kernel_rfl) ?_
            intro φ129 w129 s
            refine ops_done (by kernel_rfl) ?_
            refine cond_false_rule (b := false) (by kernel_rfl) rfl ?_
            refine wp_skip ?_
            refine wp_seq ?_
            refine wp_seq ?_
            refine region_rule ?_
            refine ops_rule (C := []) [((φ7 3), .cells #[.bool b, .pointer p, .int .u64 0, .pointer none] 64), ((φ127 0), .cells #[.bool false, .pointer none, .int .u64 0, .pointer none] 64), ((φ127 1), .cells #[.bool false, .pointer none, .int .u64 0, .pointer none] 64)] [] 2 [] 0 (fun φ130 => [(86, .bool true), (85, .int .i64 3)]) (fun φ130 => [((φ7 3), .cells #[.bool b, .pointer p, .int .u64 0, .pointer none] 64), ((φ127 0), .cells #[.bool false, .pointer none, .int .u64 0, .pointer none] 64), ((φ127 1), .cells #[.bool false, .pointer none, .int .u64 0, .pointer none] 64)]) (fun φ130 => []) s trivial (fun φ130 => by kernel_rfl) ?_
            intro φ130 w130 s
            refine ops_done (by kernel_rfl) ?_
            refine cond_true_rule (b := true) (by kernel_rfl) rfl ?_
            refine wp_exit ?_
            refine region_rule ?_
            refine ops_rule (C := []) [((φ7 3), .cells #[.bool b, .pointer p, .int .u64 0, .pointer none] 64), ((φ127 0), .cells #[.bool false, .pointer none, .int .u64 0, .pointer none] 64), ((φ127 1), .cells #[.bool false, .pointer none, .int .u64 0, .pointer none] 64)] [] 2 [] 0 (fun φ131 => [(63, .int .i64 (IntKind.wrap .i64 (((k : Nat) : Int) + ((1 : Nat) : Int)))), (94, .int .i64 (IntKind.wrap .i64 (((k : Nat) : Int) + ((1 : Nat) : Int))))]) (fun φ131 => [((φ7 3), .cells #[.bool b, .pointer p, .int .u64 0, .pointer none] 64), ((φ127 0), .cells #[.bool false, .pointer none, .int .u64 0, .pointer none] 64), ((φ127 1), .cells #[.bool false, .pointer none, .int .u64 0, .pointer none] 64)]) (fun φ131 => []) s trivial (fun φ131 => by kernel_rfl) ?_
            intro φ131 w131 s
            rw [nat_addI (a := k) (b := 1) (by omega)]
            refine ops_done (by kernel_rfl) ?_
            have hk18 := of_decide_eq_true hc123
            exact ⟨⟨m - 1, (k + 1, i, b, p), _, _, _, by omega, rfl, s, (List.Sublist.cons₂ _ (List.Sublist.cons _ (List.Sublist.cons _ List.Sublist.slnil))), by kernel_rfl, hle95, by simp only; omega, (by have h16 := of_decide_eq_false hc97; rw [show min (k + 1) 16 = min k 16 by omega]; exact hsp), hi⟩⟩
          ·
            rw [hc123]
            refine cond_false_rule (b := false) (by kernel_rfl) rfl ?_
            refine wp_exit ?_
            refine wp_seq ?_
            refine region_rule ?_
            refine ops_rule (C := []) [((φ7 3), .cells #[.bool b, .pointer p, .int .u64 0, .pointer none] 64)] [] 1 [.o 0, .o 0, .o 0, .o 0] 0 (fun φ132 => [(96, .agg #[.bool b, .pointer p, .int .u64 0, .pointer none])]) (fun φ132 => [((φ7 3), .cells #[.bool b, .pointer p, .int .u64 0, .pointer none] 64)]) (fun φ132 => [(φ7 3), (φ7 3), (φ7 3), (φ7 3)]) s trivial (fun φ132 => by kernel_rfl) ?_
            intro φ132 w132 s
            refine call_rule (some 97) s (tickSpine_c (by have := of_decide_eq_false hc123; exact (show min k 16 = 16 by omega) ▸ hsp) hi) (by kernel_rfl) ?_
            intro v133 I133 w133 le133 h133 s
            replace hT := Tab.mono le133 hT
            replace hle9 := leMono le133 hle9
            replace hle95 := leMono le133 hle95
            replace hi := TRep.mono le133 hi
            obtain ⟨b133, p133, rfl, h133_0⟩ := h133
            refine ops_rule (C := []) [((φ7 3), .cells #[.bool b, .pointer p, .int .u64 0, .pointer none] 64)] [] 6 [.o 1, .o 1, .o 1, .o 1] 1 (fun φ134 => [(16, .int .i64 0), (15, .pointer (some ⟨(φ134 0), 0, none⟩)), (99, .int .i64 0), (98, .agg #[.bool b, .pointer p, .int .u64 ((b133 : Nat) : Int), .pointer p133]), (95, .tuple #[.agg #[.bool b, .pointer p, .int .u64 ((b133 : Nat) : Int), .pointer p133], .int .i64 0])]) (fun φ134 => [((φ7 3), .cells #[.bool b, .pointer p, .int .u64 0, .pointer none] 64), ((φ134 0), .cells #[.bool b, .pointer p, .int .u64 ((b133 : Nat) : Int), .pointer p133] 64)]) (fun φ134 => [(φ134 0), (φ134 0), (φ134 0), (φ134 0)]) s trivial (fun φ134 => by kernel_rfl) ?_
            intro φ134 w134 s
            refine ops_done (by kernel_rfl) ?_
            refine wp_seq ?_
            refine region_rule ?_
            refine ops_rule (C := []) [((φ7 3), .cells #[.bool b, .pointer p, .int .u64 0, .pointer none] 64), ((φ134 0), .cells #[.bool b, .pointer p, .int .u64 ((b133 : Nat) : Int), .pointer p133] 64)] [] 5 [.o 1, .o 1] 0 (fun φ135 => [(104, .agg #[.int .u64 ((b133 : Nat) : Int), .pointer p133]), (103, .pointer (some ⟨(φ134 0), 2, none⟩)), (102, .bool true), (101, .bool true), (100, .int .i64 0)]) (fun φ135 => [((φ7 3), .cells #[.bool b, .pointer p, .int .u64 0, .pointer none] 64), ((φ134 0), .cells #[.bool b, .pointer p, .int .u64 ((b133 : Nat) : Int), .pointer p133] 64)]) (fun φ135 => [(φ134 0), (φ134 0)]) s trivial (fun φ135 => by kernel_rfl) ?_
            intro φ135 w135 s
            refine call_rule (some 105) s (depth16_c h133_0 (spine_grow 40 16 (by have := of_decide_eq_false hc123; exact (show min k 16 = 16 by omega) ▸ hsp) (by omega) (by omega) (by omega)).2.1) (by kernel_rfl) ?_
            intro v136 I136 w136 le136 h136 s
            replace hT := Tab.mono le136 hT
            replace hle9 := leMono le136 hle9
            replace hle95 := leMono le136 hle95
            replace hi := TRep.mono le136 hi
            replace h133_0 := ERep.mono le136 h133_0
            obtain rfl := h136
            refine ops_rule (C := []) [((φ7 3), .cells #[.bool b, .pointer p, .int .u64 0, .pointer none] 64), ((φ134 0), .cells #[.bool b, .pointer p, .int .u64 ((b133 : Nat) : Int), .pointer p133] 64)] [] 5 [.o 1, .o 1] 0 (fun φ137 => [(110, .agg #[.int .u64 ((b133 : Nat) : Int), .pointer p133]), (109, .pointer (some ⟨(φ134 0), 2, none⟩)), (108, .bool true), (107, .bool true), (106, .bool true)]) (fun φ137 => [((φ7 3), .cells #[.bool b, .pointer p, .int .u64 0, .pointer none] 64), ((φ134 0), .cells #[.bool b, .pointer p, .int .u64 ((b133 : Nat) : Int), .pointer p133] 64)]) (fun φ137 => [(φ134 0), (φ134 0)]) s trivial (fun φ137 => by kernel_rfl) ?_
            intro φ137 w137 s
            refine call_rule (some 111) s (max1_c h133_0 (spine_grow 40 16 (by have := of_decide_eq_false hc123; exact (show min k 16 = 16 by omega) ▸ hsp) (by omega) (by omega) (by omega)).2.2.1) (by kernel_rfl) ?_
            intro v138 I138 w138 le138 h138 s
            replace hT := Tab.mono le138 hT
            replace hle9 := leMono le138 hle9
            replace hle95 := leMono le138 hle95
            replace hi := TRep.mono le138 hi
            replace h133_0 := ERep.mono le138 h133_0
            obtain rfl := h138
            refine ops_rule (C := []) [((φ7 3), .cells #[.bool b, .pointer p, .int .u64 0, .pointer none] 64), ((φ134 0), .cells #[.bool b, .pointer p, .int .u64 ((b133 : Nat) : Int), .pointer p133] 64)] [] 3 [] 0 (fun φ139 => [(4, .bool true), (113, .bool true), (112, .bool true)]) (fun φ139 => [((φ7 3), .cells #[.bool b, .pointer p, .int .u64 0, .pointer none] 64), ((φ134 0), .cells #[.bool b, .pointer p, .int .u64 ((b133 : Nat) : Int), .pointer p133] 64)]) (fun φ139 => []) s trivial (fun φ139 => by kernel_rfl) ?_
            intro φ139 w139 s
            refine ops_done (by kernel_rfl) ?_
            refine wp_ret ?_
            refine ret_rule (C := []) [((φ7 3), .cells #[.bool b, .pointer p, .int .u64 0, .pointer none] 64), ((φ134 0), .cells #[.bool b, .pointer p, .int .u64 ((b133 : Nat) : Int), .pointer p133] 64)] [] (.bool true) [] [] s trivial (by kernel_rfl) ?_
            exact ⟨_, _, _, rfl, s, rfl⟩

end Go.Proofs.YtgdickihjaomjaaDoor

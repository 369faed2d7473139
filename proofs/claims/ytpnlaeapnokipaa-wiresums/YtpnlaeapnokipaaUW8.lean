/- WireSums. -/
import Derived.Test.YtpnlaeapnokipaaUW7
import Derived.Test.YtpnlaeapnokipaaUC3
set_option linter.all false
set_option maxRecDepth 100000
namespace Go.Proofs.Ytpnlaeapnokipaa
open Go.RowKit Go.Sep
attribute [local irreducible] Go.wpList Go.Code.wp

theorem cutE_r {I : IM} {l : List UInt8} {a : Option Addr} {n c m : Nat} (hl : BSl I l (.slice a n c)) (hm : m ≤ 1000000) (h : l.length ≤ m) : FunM Try.prog 36 #[.slice a n c, .int .i64 ((m : Nat) : Int)] I [] (fun v J F => RowH 5 1 v l.length (l.map bV) F) := by
  have := cut_r hl hm
  rwa [List.take_of_length_le h] at this

set_option maxHeartbeats 4000000 in
theorem wireSums_c {I : IM} {l : List UInt8} {a : Option Addr} {n c : Nat} (hl : BSl I l (.slice a n c)) {q0 t : Nat} (hq : q0 < 65536) (ht : t < 4294967296) : Fun Try.prog 8 #[.slice a n c, .int .u16 ((q0 : Nat) : Int), .int .u32 ((t : Nat) : Int)] I (fun v J => v = .bool true) := by
  obtain ⟨rfl, -⟩ := hl.cap
  refine enter_rule 71 [(0, .slice a l.length c), (1, .int .u16 ((q0 : Nat) : Int)), (2, .int .u32 ((t : Nat) : Int))] Try.func8 rfl (by kernel_rfl) ?_
  intro w s
  refine wp_seq ?_
  refine region_rule ?_
  refine ops_rule (C := []) [] [] 1 [] 0 (fun φ1 => [(6, .bool false)]) (fun φ1 => []) (fun φ1 => []) s trivial (fun φ1 => by kernel_rfl) ?_
  intro φ1 w1 s
  refine ops_done (by kernel_rfl) ?_
  refine wp_seq ?_
  refine wp_seq ?_
  refine region_rule ?_
  refine call_rule (some 11) s (awake6_c) (by kernel_rfl) ?_
  intro v2 I2 w2 le2 h2 s
  replace hl := BSl.mono le2 hl
  obtain rfl := h2
  refine ops_rule (C := []) [] [] 1 [] 0 (fun φ3 => [(12, .bool false)]) (fun φ3 => []) (fun φ3 => []) s trivial (fun φ3 => by kernel_rfl) ?_
  intro φ3 w3 s
  refine ops_done (by kernel_rfl) ?_
  refine cond_false_rule (b := false) (by kernel_rfl) rfl ?_
  refine wp_skip ?_
  refine wp_seq ?_
  refine region_rule ?_
  refine ops_rule (C := []) [] [] 1 [] 0 (fun φ4 => [(13, .slice a l.length c)]) (fun φ4 => []) (fun φ4 => []) s trivial (fun φ4 => by kernel_rfl) ?_
  intro φ4 w4 s
  refine call_rule (some 14) s (cut_c (m := 200) hl (by decide)) (by kernel_rfl) ?_
  intro v5 I5 w5 le5 h5 s
  replace hl := BSl.mono le5 hl
  obtain ⟨a5, c5, rfl, h5_0⟩ := h5
  refine ops_rule (C := []) [] [] 1 [] 0 (fun φ6 => [(0, .slice a5 (List.length (l.take 200)) c5)]) (fun φ6 => []) (fun φ6 => []) s trivial (fun φ6 => by kernel_rfl) ?_
  intro φ6 w6 s
  refine ops_done (by kernel_rfl) ?_
  refine wp_seq ?_
  refine wp_seq ?_
  refine region_rule ?_
  refine ops_rule (C := []) [] [] 1 [] 0 (fun φ7 => [(15, .slice a5 (List.length (l.take 200)) c5)]) (fun φ7 => []) (fun φ7 => []) s trivial (fun φ7 => by kernel_rfl) ?_
  intro φ7 w7 s
  refine call_rule (some 16) s (sum_c h5_0 (by simp only [List.length_take]; omega)) (by kernel_rfl) ?_
  intro v8 I8 w8 le8 h8 s
  replace hl := BSl.mono le8 hl
  replace h5_0 := BSl.mono le8 h5_0
  obtain rfl := h8
  refine ops_rule (C := []) [] [] 1 [] 0 (fun φ9 => [(17, .slice a5 (List.length (l.take 200)) c5)]) (fun φ9 => []) (fun φ9 => []) s trivial (fun φ9 => by kernel_rfl) ?_
  intro φ9 w9 s
  refine call_rule (some 18) s (refsum_c h5_0 (by simp only [List.length_take]; omega)) (by kernel_rfl) ?_
  intro v10 I10 w10 le10 h10 s
  replace hl := BSl.mono le10 hl
  replace h5_0 := BSl.mono le10 h5_0
  obtain rfl := h10
  refine ops_rule (C := []) [] [] 1 [] 0 (fun φ11 => [(19, .bool (((4294967295 - crc 4294967295 (l.take 200) : Nat) : Int) != ((4294967295 - crc 4294967295 (l.take 200) : Nat) : Int)))]) (fun φ11 => []) (fun φ11 => []) s trivial (fun φ11 => by kernel_rfl) ?_
  intro φ11 w11 s
  rw [(nat_neq (a := (4294967295 - crc 4294967295 (l.take 200))) (b := (4294967295 - crc 4294967295 (l.take 200)))).trans (decide_eq_false (fun q => q rfl))]
  refine ops_done (by kernel_rfl) ?_
  refine cond_false_rule (b := false) (by kernel_rfl) rfl ?_
  refine wp_skip ?_
  refine wp_seq ?_
  refine wp_seq ?_
  refine region_rule ?_
  refine ops_rule (C := []) [] [] 4 [] 0 (fun φ12 => [(23, .bool ((((List.length (l.take 200)) : Nat) : Int) == ((0 : Nat) : Int))), (22, .bool ((((List.length (l.take 200)) : Nat) : Int) == ((0 : Nat) : Int))), (21, .int .i64 (((List.length (l.take 200)) : Nat) : Int)), (20, .slice a5 (List.length (l.take 200)) c5)]) (fun φ12 => []) (fun φ12 => []) s trivial (fun φ12 => by kernel_rfl) ?_
  intro φ12 w12 s
  rw [nat_eql (a := (List.length (l.take 200))) (b := 0)]
  rcases Bool.eq_false_or_eq_true (decide ((List.length (l.take 200)) = 0)) with hc13 | hc13
  ·
    rw [hc13]
    refine ops_rule (C := []) [] [] 3 [] 0 (fun φ14 => [(26, .bool true), (25, undef), (24, undef)]) (fun φ14 => []) (fun φ14 => []) s trivial (fun φ14 => by kernel_rfl) ?_
    intro φ14 w14 s
    refine ops_done (by kernel_rfl) ?_
    refine cond_true_rule (b := true) (by kernel_rfl) rfl ?_
    refine wp_seq ?_
    refine region_rule ?_
    refine ops_rule (C := []) [] [] 1 [] 0 (fun φ15 => [(6, .bool true)]) (fun φ15 => []) (fun φ15 => []) s trivial (fun φ15 => by kernel_rfl) ?_
    intro φ15 w15 s
    refine ops_done (by kernel_rfl) ?_
    refine wp_ret ?_
    refine ret_rule (C := []) [] [] (.bool true) [] [] s trivial (by kernel_rfl) ?_
    exact ⟨_, _, _, rfl, s, rfl⟩
  ·
    rw [hc13]
    refine ops_rule (C := []) [] [] 3 [] 0 (fun φ16 => [(26, .bool (((t : Nat) : Int) == ((0 : Nat) : Int))), (25, .bool (((t : Nat) : Int) == ((0 : Nat) : Int))), (24, .int .u32 ((t : Nat) : Int))]) (fun φ16 => []) (fun φ16 => []) s trivial (fun φ16 => by kernel_rfl) ?_
    intro φ16 w16 s
    rw [nat_eql (a := t) (b := 0)]
    refine ops_done (by kernel_rfl) ?_
    rcases Bool.eq_false_or_eq_true (decide (t = 0)) with hc17 | hc17
    ·
      rw [hc17]
      refine cond_true_rule (b := true) (by kernel_rfl) rfl ?_
      refine wp_seq ?_
      refine region_rule ?_
      refine ops_rule (C := []) [] [] 1 [] 0 (fun φ18 => [(6, .bool true)]) (fun φ18 => []) (fun φ18 => []) s trivial (fun φ18 => by kernel_rfl) ?_
      intro φ18 w18 s
      refine ops_done (by kernel_rfl) ?_
      refine wp_ret ?_
      refine ret_rule (C := []) [] [] (.bool true) [] [] s trivial (by kernel_rfl) ?_
      exact ⟨_, _, _, rfl, s, rfl⟩
    ·
      rw [hc17]
      refine cond_false_rule (b := false) (by kernel_rfl) rfl ?_
      refine wp_skip ?_
      refine wp_seq ?_
      refine region_rule ?_
      refine ops_rule (C := []) [] [] 1 [] 0 (fun φ19 => [(27, .slice a5 (List.length (l.take 200)) c5)]) (fun φ19 => []) (fun φ19 => []) s trivial (fun φ19 => by kernel_rfl) ?_
      intro φ19 w19 s
      refine callF_rule (H := []) (F := []) (some 28) s (cutE_r (m := 200) h5_0 (by decide) (by simp only [List.length_take]; omega)) (by kernel_rfl) ?_
      intro v20 I20 w20 F20 le20 h20 s
      replace hl := BSl.mono le20 hl
      replace h5_0 := BSl.mono le20 h5_0
      obtain ⟨g21, cap21, cur21, hv21, hF21, hc21, hrow21⟩ := row_open h20 (by have hq := of_decide_eq_false hc13; omega)
      subst hv21
      subst hF21
      refine ops_rule (C := []) [(g21, .cells cur21 5)] [] 1 [] 0 (fun φ22 => [(7, .slice (some ⟨g21, 0, none⟩) (((l.take 200)).length) cap21)]) (fun φ22 => [(g21, .cells cur21 5)]) (fun φ22 => []) s trivial (fun φ22 => by kernel_rfl) ?_
      intro φ22 w22 s
      refine ops_done (by kernel_rfl) ?_
      refine wp_seq ?_
      refine region_rule ?_
      refine ops_rule (C := []) [(g21, .cells cur21 5)] [] 1 [] 0 (fun φ23 => [(8, .bool true)]) (fun φ23 => [(g21, .cells cur21 5)]) (fun φ23 => []) s trivial (fun φ23 => by kernel_rfl) ?_
      intro φ23 w23 s
      refine ops_done (by kernel_rfl) ?_
      refine wp_seq ?_
      refine wp_seq ?_
      refine region_rule ?_
      refine ops_rule (C := []) [(g21, .cells cur21 5)] [] 1 [] 0 (fun φ24 => [(29, .int .i64 0)]) (fun φ24 => [(g21, .cells cur21 5)]) (fun φ24 => []) s trivial (fun φ24 => by kernel_rfl) ?_
      intro φ24 w24 s
      refine ops_done (by kernel_rfl) ?_
      refine wp_block ?_
      have hle25 := IM.Le.refl I20
      refine loop_rule (fun (x : Nat × List UInt8 × Array Value × Bool) => [(0, .slice a5 (List.length (l.take 200)) c5), (1, .int .u16 ((q0 : Nat) : Int)), (2, .int .u32 ((t : Nat) : Int)), (7, .slice (some ⟨g21, 0, none⟩) (((l.take 200)).length) cap21), (29, .int .i64 ((x.1 : Nat) : Int)), (8, .bool x.2.2.2)]) (fun (x : Nat × List UInt8 × Array Value × Bool) => [(g21, .cells x.2.2.1 5)]) (fun m (x : Nat × List UInt8 × Array Value × Bool) J => IM.Le I20 J ∧ x.1 + m = 32 ∧ Turned (l.take 200) x.2.1 (q0 % (8 * ((l.take 200)).length)) x.1 x.2.2.2 ∧ RowH 5 1 (.slice (some ⟨g21, 0, none⟩) ((l.take 200)).length cap21) ((l.take 200)).length (x.2.1.map bV) [(g21, .cells x.2.2.1 5)]) (32) (0, (l.take 200), cur21, true) s (by kernel_rfl) (List.Sublist.cons₂ _ List.Sublist.slnil) ⟨IM.Le.refl _, rfl, Turned.start _ _, hrow21⟩ ?_
      rintro m26 ⟨i26, q26, cur26, s26⟩ I26 w26 ev26 s ⟨le26, hi26_0, hi26_1, hi26_2⟩
      try dsimp only at s hi26_0 hi26_1 hi26_2 ⊢
      replace hl := BSl.mono le26 hl
      replace h5_0 := BSl.mono le26 h5_0
      replace hle25 := leMono le26 hle25
      refine wp_seq ?_
      refine region_rule ?_
      refine ops_rule (C := []) [(g21, .cells cur26 5)] [] 1 [] 0 (fun φ27 => [(30, .bool (decide (((i26 : Nat) : Int) < ((32 : Nat) : Int))))]) (fun φ27 => [(g21, .cells cur26 5)]) (fun φ27 => []) s trivial (fun φ27 => by kernel_rfl) ?_
      intro φ27 w27 s
      rw [nat_lss (a := i26) (b := 32)]
      refine ops_done (by kernel_rfl) ?_
      refine wp_seq ?_
      rcases Bool.eq_false_or_eq_true (decide (i26 < 32)) with hc28 | hc28
      ·
        rw [hc28]
        refine cond_true_rule (b := true) (by kernel_rfl) rfl ?_
        refine wp_skip ?_
        refine wp_seq ?_
        refine wp_block ?_
        refine wp_seq ?_
        refine region_rule ?_
        refine ops_rule (C := []) [(g21, .cells cur26 5)] [] 2 [] 0 (fun φ29 => [(9, .int .i64 ((i26 : Nat) : Int)), (31, .int .i64 ((i26 : Nat) : Int))]) (fun φ29 => [(g21, .cells cur26 5)]) (fun φ29 => []) s trivial (fun φ29 => by kernel_rfl) ?_
        intro φ29 w29 s
        refine ops_done (by kernel_rfl) ?_
        refine wp_seq ?_
        refine region_rule ?_
        refine ops_rule (C := []) [(g21, .cells cur26 5)] [] 5 [] 0 (fun φ30 => [(36, .int .i64 (IntKind.wrap .i64 (((8 : Nat) : Int) * ((((l.take 200)).length : Nat) : Int)))), (35, .int .i64 ((((l.take 200)).length : Nat) : Int)), (34, .slice (some ⟨g21, 0, none⟩) (((l.take 200)).length) cap21), (33, .int .i64 (IntKind.wrap .i64 ((q0 : Nat) : Int))), (32, .int .u16 ((q0 : Nat) : Int))]) (fun φ30 => [(g21, .cells cur26 5)]) (fun φ30 => []) s trivial (fun φ30 => by kernel_rfl) ?_
        intro φ30 w30 s
        rw [nat_wrapI (a := q0) (by have hlt := List.length_take (i := 200) (l := l); have hz0 := of_decide_eq_false hc13; have hmod := Nat.mod_lt q0 (show 0 < 8 * ((l.take 200)).length by omega); have hqn := hi26_1.1;  have hq0 := of_decide_eq_false hc13; have hq1 := of_decide_eq_false hc17; have hq2 := of_decide_eq_true hc28; omega)]
        rw [nat_mulI (a := 8) (b := (((l.take 200)).length)) (by have hlt := List.length_take (i := 200) (l := l); have hz0 := of_decide_eq_false hc13; have hmod := Nat.mod_lt q0 (show 0 < 8 * ((l.take 200)).length by omega); have hqn := hi26_1.1;  have hq0 := of_decide_eq_false hc13; have hq1 := of_decide_eq_false hc17; have hq2 := of_decide_eq_true hc28; omega)]
        refine sem_rule (binOp .rem 3 (.int .i64 ((q0 : Nat) : Int)) (.int .i64 ((8 * (((l.take 200)).length) : Nat) : Int))) (some 37) (.int .i64 ((q0 % (8 * (((l.take 200)).length)) : Nat) : Int)) (by kernel_rfl) (run_remI (by have hlt := List.length_take (i := 200) (l := l); have hz0 := of_decide_eq_false hc13; have hmod := Nat.mod_lt q0 (show 0 < 8 * ((l.take 200)).length by omega); have hqn := hi26_1.1;  have hq0 := of_decide_eq_false hc13; have hq1 := of_decide_eq_false hc17; have hq2 := of_decide_eq_true hc28; omega)) ?_
        refine ops_rule (C := []) [(g21, .cells cur26 5)] [] 3 [] 0 (fun φ31 => [(10, .int .i64 (IntKind.wrap .i64 (((q0 % (8 * (((l.take 200)).length)) : Nat) : Int) + ((i26 : Nat) : Int)))), (39, .int .i64 (IntKind.wrap .i64 (((q0 % (8 * (((l.take 200)).length)) : Nat) : Int) + ((i26 : Nat) : Int)))), (38, .int .i64 ((i26 : Nat) : Int))]) (fun φ31 => [(g21, .cells cur26 5)]) (fun φ31 => []) s trivial (fun φ31 => by kernel_rfl) ?_
        intro φ31 w31 s
        rw [nat_addI (a := (q0 % (8 * (((l.take 200)).length)))) (b := i26) (by have hlt := List.length_take (i := 200) (l := l); have hz0 := of_decide_eq_false hc13; have hmod := Nat.mod_lt q0 (show 0 < 8 * ((l.take 200)).length by omega); have hqn := hi26_1.1;  have hq0 := of_decide_eq_false hc13; have hq1 := of_decide_eq_false hc17; have hq2 := of_decide_eq_true hc28; omega)]
        refine ops_done (by kernel_rfl) ?_
        refine wp_seq ?_
        refine region_rule ?_
        refine ops_rule (C := []) [(g21, .cells cur26 5)] [] 6 [] 0 (fun φ32 => [(45, .bool (decide ((((q0 % (8 * (((l.take 200)).length))) + i26 : Nat) : Int) < (IntKind.wrap .i64 (((8 : Nat) : Int) * ((((l.take 200)).length : Nat) : Int)))))), (44, .bool (decide ((((q0 % (8 * (((l.take 200)).length))) + i26 : Nat) : Int) < (IntKind.wrap .i64 (((8 : Nat) : Int) * ((((l.take 200)).length : Nat) : Int)))))), (43, .int .i64 (IntKind.wrap .i64 (((8 : Nat) : Int) * ((((l.take 200)).length : Nat) : Int)))), (42, .int .i64 ((((l.take 200)).length : Nat) : Int)), (41, .slice (some ⟨g21, 0, none⟩) (((l.take 200)).length) cap21), (40, .int .i64 (((q0 % (8 * (((l.take 200)).length))) + i26 : Nat) : Int))]) (fun φ32 => [(g21, .cells cur26 5)]) (fun φ32 => []) s trivial (fun φ32 => by kernel_rfl) ?_
        intro φ32 w32 s
        rw [nat_mulI (a := 8) (b := (((l.take 200)).length)) (by have hlt := List.length_take (i := 200) (l := l); have hz0 := of_decide_eq_false hc13; have hmod := Nat.mod_lt q0 (show 0 < 8 * ((l.take 200)).length by omega); have hqn := hi26_1.1;  have hq0 := of_decide_eq_false hc13; have hq1 := of_decide_eq_false hc17; have hq2 := of_decide_eq_true hc28; omega)]
        rw [nat_lss (a := ((q0 % (8 * (((l.take 200)).length))) + i26)) (b := (8 * (((l.take 200)).length)))]
        rcases Bool.eq_false_or_eq_true (decide (((q0 % (8 * (((l.take 200)).length))) + i26) < (8 * (((l.take 200)).length)))) with hc33 | hc33
        ·
          rw [hc33]
          refine ops_rule (C := []) [(g21, .cells cur26 5)] [] 2 [] 0 (fun φ34 => [(47, .int .i64 ((i26 : Nat) : Int)), (46, .int .u32 ((t : Nat) : Int))]) (fun φ34 => [(g21, .cells cur26 5)]) (fun φ34 => []) s trivial (fun φ34 => by kernel_rfl) ?_
          intro φ34 w34 s
          refine sem_rule (binOp .shr 59 (.int .u32 ((t : Nat) : Int)) (.int .i64 ((i26 : Nat) : Int))) (some 48) (.int .u32 ((t / 2 ^ i26 : Nat) : Int)) (by kernel_rfl) (run_shrU (by show _ < 4294967296; have hlt := List.length_take (i := 200) (l := l); have hz0 := of_decide_eq_false hc13; have hmod := Nat.mod_lt q0 (show 0 < 8 * ((l.take 200)).length by omega); have hqn := hi26_1.1;  have hq0 := of_decide_eq_false hc13; have hq1 := of_decide_eq_false hc17; have hq2 := of_decide_eq_true hc28; have hq3 := of_decide_eq_true hc33; omega)) ?_
          refine sem_rule (binOp .and 59 (.int .u32 ((t / 2 ^ i26 : Nat) : Int)) (.int .u32 ((1 : Nat) : Int))) (some 49) (.int .u32 ((band 32 (t / 2 ^ i26) 1 : Nat) : Int)) (by kernel_rfl) (run_bit32.2.1) ?_
          refine ops_rule (C := []) [(g21, .cells cur26 5)] [] 2 [] 0 (fun φ35 => [(51, .bool (((band 32 (t / 2 ^ i26) 1 : Nat) : Int) == ((1 : Nat) : Int))), (50, .bool (((band 32 (t / 2 ^ i26) 1 : Nat) : Int) == ((1 : Nat) : Int)))]) (fun φ35 => [(g21, .cells cur26 5)]) (fun φ35 => []) s trivial (fun φ35 => by kernel_rfl) ?_
          intro φ35 w35 s
          rw [nat_eql (a := (band 32 (t / 2 ^ i26) 1)) (b := 1)]
          refine ops_done (by kernel_rfl) ?_
          rcases Bool.eq_false_or_eq_true (decide ((band 32 (t / 2 ^ i26) 1) = 1)) with hc36 | hc36
          ·
            rw [hc36]
            refine cond_true_rule (b := true) (by kernel_rfl) rfl ?_
            refine wp_seq ?_
            have hz37 := St.none0 s (g := g21) (o := .cells cur26 5) (by simp)
            have hT37 := IM.Le.refl I26
            have hlK37 := hl
            have h5_0K37 := h5_0
            have hle25K37 := hle25
            obtain ⟨I38, le38, hk38, s⟩ := s.freezeAt 0 g21 (.cells cur26 5) [] (by kernel_rfl) (by kernel_rfl)
            replace hl := BSl.mono le38 hl
            replace h5_0 := BSl.mono le38 h5_0
            replace hle25 := leMono le38 hle25
            replace hT37 := leMono le38 hT37
            refine drawL_rule (H := []) (C := []) ⟨(fun φ39 xs39 => [.look 0 [] [], .look 0 [] [], .sub 0 [] [] (.int .i64 (IntKind.wrap .i64 (Int.tdiv (((q0 % (8 * (((l.take 200)).length))) + i26 : Nat) : Int) ((8 : Nat) : Int)))), .ran (Instr.indexAt 34 (.slice (some ⟨g21, 0, none⟩) (((l.take 200)).length) cap21) (.int .i64 ((((q0 % (8 * (((l.take 200)).length))) + i26) / 8 : Nat) : Int))), .ran (Instr.loadAt 5 (.pointer (pAt (some ⟨g21, 0, none⟩) (((q0 % (8 * (((l.take 200)).length))) + i26) / 8)))), .look 0 [] [], .sub 0 [] [] (.int .i64 (Int.tmod (((q0 % (8 * (((l.take 200)).length))) + i26 : Nat) : Int) ((8 : Nat) : Int))), .ran (binOp .shl 5 (.int .u8 ((1 : Nat) : Int)) (.int .i64 ((((q0 % (8 * (((l.take 200)).length))) + i26) % 8 : Nat) : Int))), .ran (binOp .xor 5 (.int .u8 (((q26.getD (((q0 % (8 * (((l.take 200)).length))) + i26) / 8) 0).toNat : Nat) : Int)) (.int .u8 ((bshl 8 1 (((q0 % (8 * (((l.take 200)).length))) + i26) % 8) : Nat) : Int))), .ran (Instr.indexAt 34 (.slice (some ⟨g21, 0, none⟩) (((l.take 200)).length) cap21) (.int .i64 ((((q0 % (8 * (((l.take 200)).length))) + i26) / 8 : Nat) : Int)))]), (fun φ39 xs39 => [.slice (some ⟨g21, 0, none⟩) (((l.take 200)).length) cap21, .int .i64 (((q0 % (8 * (((l.take 200)).length))) + i26 : Nat) : Int), .int .i64 ((((q0 % (8 * (((l.take 200)).length))) + i26) / 8 : Nat) : Int), .pointer (pAt (some ⟨g21, 0, none⟩) (((q0 % (8 * (((l.take 200)).length))) + i26) / 8)), .int .u8 (((q26.getD (((q0 % (8 * (((l.take 200)).length))) + i26) / 8) 0).toNat : Nat) : Int), .int .i64 (((q0 % (8 * (((l.take 200)).length))) + i26 : Nat) : Int), .int .i64 ((((q0 % (8 * (((l.take 200)).length))) + i26) % 8 : Nat) : Int), .int .u8 ((bshl 8 1 (((q0 % (8 * (((l.take 200)).length))) + i26) % 8) : Nat) : Int), .int .u8 ((bxor 8 ((q26.getD (((q0 % (8 * (((l.take 200)).length))) + i26) / 8) 0).toNat) (bshl 8 1 (((q0 % (8 * (((l.take 200)).length))) + i26) % 8)) : Nat) : Int), .pointer (pAt (some ⟨g21, 0, none⟩) (((q0 % (8 * (((l.take 200)).length))) + i26) / 8))]), (fun φ39 xs39 => [[]]), (fun φ39 xs39 => [[default, default, default, default, default, default, default, default, default, default]]), [], [1, 1, 5, 6, 6, 1, 5, 6, 6, 6]⟩ (fun j => ([MP.any, MP.any, MP.any, MP.any, MP.any, MP.any, MP.any, MP.any, MP.any, MP.any] : List MP).getD j MP.any) [] _ (last_split 10 (by kernel_rfl)) (by kernel_rfl) [] [2, 6] [3, 4, 7, 8, 9] (fun φ39 xs39 => []) (fun φ39 xs39 => [(52, .slice (some ⟨g21, 0, none⟩) (((l.take 200)).length) cap21), (53, .int .i64 (((q0 % (8 * (((l.take 200)).length))) + i26 : Nat) : Int)), (54, .int .i64 ((((q0 % (8 * (((l.take 200)).length))) + i26) / 8 : Nat) : Int)), (55, .pointer (pAt (some ⟨g21, 0, none⟩) (((q0 % (8 * (((l.take 200)).length))) + i26) / 8))), (56, .int .u8 (((q26.getD (((q0 % (8 * (((l.take 200)).length))) + i26) / 8) 0).toNat : Nat) : Int)), (57, .int .i64 (((q0 % (8 * (((l.take 200)).length))) + i26 : Nat) : Int)), (58, .int .i64 ((((q0 % (8 * (((l.take 200)).length))) + i26) % 8 : Nat) : Int)), (59, .int .u8 ((bshl 8 1 (((q0 % (8 * (((l.take 200)).length))) + i26) % 8) : Nat) : Int)), (60, .int .u8 ((bxor 8 ((q26.getD (((q0 % (8 * (((l.take 200)).length))) + i26) / 8) 0).toNat) (bshl 8 1 (((q0 % (8 * (((l.take 200)).length))) + i26) % 8)) : Nat) : Int)), (61, .pointer (pAt (some ⟨g21, 0, none⟩) (((q0 % (8 * (((l.take 200)).length))) + i26) / 8)))]) (fun φ39 xs39 => []) s trivial (by kernel_rfl) (by kernel_rfl) (fun _ _ => by kernel_rfl) (fun _ _ => by kernel_rfl) ⟨fun _ _ => by kernel_rfl, fun _ _ => by kernel_rfl, fun _ _ => by kernel_rfl, fun _ _ => by kernel_rfl⟩ (fun _ _ _ => by kernel_rfl) (fun _ _ => by kernel_rfl) (fun _ _ => by kernel_rfl) (fun _ _ => by kernel_rfl) (fun _ _ => by kernel_rfl) (fun _ _ => by kernel_rfl) ⟨kcast (A := ∀ (φ39 : Nat → Nat) (xs39 : Xs), (.int .i64 (IntKind.wrap .i64 (Int.tdiv (((q0 % (8 * (((l.take 200)).length))) + i26 : Nat) : Int) ((8 : Nat) : Int))) : Value) = .int .i64 ((((q0 % (8 * (((l.take 200)).length))) + i26) / 8 : Nat) : Int)) (by kernel_rfl) (fun φ39 xs39 => congrArg (Value.int .i64) ((nat_quoI (a := ((q0 % (8 * (((l.take 200)).length))) + i26)) (b := 8) (by have hlt := List.length_take (i := 200) (l := l); have hz0 := of_decide_eq_false hc13; have hmod := Nat.mod_lt q0 (show 0 < 8 * ((l.take 200)).length by omega); have hqn := hi26_1.1;  have hq0 := of_decide_eq_false hc13; have hq1 := of_decide_eq_false hc17; have hq2 := of_decide_eq_true hc28; have hq3 := of_decide_eq_true hc33; have hq4 := of_decide_eq_true hc36; omega)))), ⟨kcast (A := ∀ (φ39 : Nat → Nat) (xs39 : Xs), (.int .i64 (Int.tmod (((q0 % (8 * (((l.take 200)).length))) + i26 : Nat) : Int) ((8 : Nat) : Int)) : Value) = .int .i64 ((((q0 % (8 * (((l.take 200)).length))) + i26) % 8 : Nat) : Int)) (by kernel_rfl) (fun φ39 xs39 => congrArg (Value.int .i64) ((nat_rem (a := ((q0 % (8 * (((l.take 200)).length))) + i26)) (b := 8)))), trivial⟩⟩ ⟨kcast (A := ∀ (φ39 : Nat → Nat) (xs39 : Xs) (J : IM) (w : World), I38.Le J → J.Sub w → ((Instr.indexAt 34 (.slice (some ⟨g21, 0, none⟩) (((l.take 200)).length) cap21) (.int .i64 ((((q0 % (8 * (((l.take 200)).length))) + i26) / 8 : Nat) : Int))) : Sem Value).run Try.prog w = .ok (.pointer (pAt (some ⟨g21, 0, none⟩) (((q0 % (8 * (((l.take 200)).length))) + i26) / 8))) w) (by kernel_rfl) (fun φ39 xs39 J w hJ hS => bsl_idx (BSl.mono hJ (row_bsl hi26_2 hk38)) (by have hlt := List.length_take (i := 200) (l := l); have hz0 := of_decide_eq_false hc13; have hmod := Nat.mod_lt q0 (show 0 < 8 * ((l.take 200)).length by omega); have hqn := hi26_1.1;  have hq0 := of_decide_eq_false hc13; have hq1 := of_decide_eq_false hc17; have hq2 := of_decide_eq_true hc28; have hq3 := of_decide_eq_true hc33; have hq4 := of_decide_eq_true hc36; omega)), ⟨kcast (A := ∀ (φ39 : Nat → Nat) (xs39 : Xs) (J : IM) (w : World), I38.Le J → J.Sub w → ((Instr.loadAt 5 (.pointer (pAt (some ⟨g21, 0, none⟩) (((q0 % (8 * (((l.take 200)).length))) + i26) / 8)))) : Sem Value).run Try.prog w = .ok (.int .u8 (((q26.getD (((q0 % (8 * (((l.take 200)).length))) + i26) / 8) 0).toNat : Nat) : Int)) w) (by kernel_rfl) (fun φ39 xs39 J w hJ hS => bsl_ld hS (BSl.mono hJ (row_bsl hi26_2 hk38)) (by have hlt := List.length_take (i := 200) (l := l); have hz0 := of_decide_eq_false hc13; have hmod := Nat.mod_lt q0 (show 0 < 8 * ((l.take 200)).length by omega); have hqn := hi26_1.1;  have hq0 := of_decide_eq_false hc13; have hq1 := of_decide_eq_false hc17; have hq2 := of_decide_eq_true hc28; have hq3 := of_decide_eq_true hc33; have hq4 := of_decide_eq_true hc36; omega)), ⟨kcast (A := ∀ (φ39 : Nat → Nat) (xs39 : Xs) (J : IM) (w : World), I38.Le J → J.Sub w → ((binOp .shl 5 (.int .u8 ((1 : Nat) : Int)) (.int .i64 ((((q0 % (8 * (((l.take 200)).length))) + i26) % 8 : Nat) : Int))) : Sem Value).run Try.prog w = .ok (.int .u8 ((bshl 8 1 (((q0 % (8 * (((l.take 200)).length))) + i26) % 8) : Nat) : Int)) w) (by kernel_rfl) (fun φ39 xs39 J w hJ hS => run_shlU (.inl rfl)), ⟨kcast (A := ∀ (φ39 : Nat → Nat) (xs39 : Xs) (J : IM) (w : World), I38.Le J → J.Sub w → ((binOp .xor 5 (.int .u8 (((q26.getD (((q0 % (8 * (((l.take 200)).length))) + i26) / 8) 0).toNat : Nat) : Int)) (.int .u8 ((bshl 8 1 (((q0 % (8 * (((l.take 200)).length))) + i26) % 8) : Nat) : Int))) : Sem Value).run Try.prog w = .ok (.int .u8 ((bxor 8 ((q26.getD (((q0 % (8 * (((l.take 200)).length))) + i26) / 8) 0).toNat) (bshl 8 1 (((q0 % (8 * (((l.take 200)).length))) + i26) % 8)) : Nat) : Int)) w) (by kernel_rfl) (fun φ39 xs39 J w hJ hS => run_bit8.1), ⟨kcast (A := ∀ (φ39 : Nat → Nat) (xs39 : Xs) (J : IM) (w : World), I38.Le J → J.Sub w → ((Instr.indexAt 34 (.slice (some ⟨g21, 0, none⟩) (((l.take 200)).length) cap21) (.int .i64 ((((q0 % (8 * (((l.take 200)).length))) + i26) / 8 : Nat) : Int))) : Sem Value).run Try.prog w = .ok (.pointer (pAt (some ⟨g21, 0, none⟩) (((q0 % (8 * (((l.take 200)).length))) + i26) / 8))) w) (by kernel_rfl) (fun φ39 xs39 J w hJ hS => bsl_idx (BSl.mono hJ (row_bsl hi26_2 hk38)) (by have hlt := List.length_take (i := 200) (l := l); have hz0 := of_decide_eq_false hc13; have hmod := Nat.mod_lt q0 (show 0 < 8 * ((l.take 200)).length by omega); have hqn := hi26_1.1;  have hq0 := of_decide_eq_false hc13; have hq1 := of_decide_eq_false hc17; have hq2 := of_decide_eq_true hc28; have hq3 := of_decide_eq_true hc33; have hq4 := of_decide_eq_true hc36; omega)), trivial⟩⟩⟩⟩⟩ (by kernel_rfl) trivial ?k39
            case k39 =>
              rintro φ39 xs39 I39 w39 le39 s 
              replace hl := BSl.mono le39 hl
              replace h5_0 := BSl.mono le39 h5_0
              replace hle25 := leMono le39 hle25
              replace hT37 := leMono le39 hT37
              replace hk38 := le39 _ _ hk38
              replace s := St.thaw s hk38 hz37.2.1 hz37.2.2
              have leT37 := IM.le_del (g := g21) hT37 hz37.1
              generalize IM.del I39 g21 = J37 at s leT37
              replace hl := BSl.mono leT37 hlK37
              replace h5_0 := BSl.mono leT37 h5_0K37
              replace hle25 := leMono leT37 hle25K37
              obtain ⟨w37, cur37, hr37, s, hrow37⟩ := row_stA (H := [(g21, .cells cur26 5)]) (q := 0) (i := ((q0 % (8 * (((l.take 200)).length))) + i26) / 8) (x := bxor 8 ((q26.getD (((q0 % (8 * (((l.take 200)).length))) + i26) / 8) 0).toNat) (bshl 8 1 (((q0 % (8 * (((l.take 200)).length))) + i26) % 8))) s (by kernel_rfl) hi26_2 (by have hlt := List.length_take (i := 200) (l := l); have hz0 := of_decide_eq_false hc13; have hmod := Nat.mod_lt q0 (show 0 < 8 * ((l.take 200)).length by omega); have hqn := hi26_1.1;  have hq0 := of_decide_eq_false hc13; have hq1 := of_decide_eq_false hc17; have hq2 := of_decide_eq_true hc28; have hq3 := of_decide_eq_true hc33; have hq4 := of_decide_eq_true hc36; omega) (bxor8_lt)
              refine last_rule (Instr.storeAt 5 (.pointer (pAt (some ⟨g21, 0, none⟩) (((q0 % (8 * (((l.take 200)).length))) + i26) / 8))) (.int .u8 ((bxor 8 ((q26.getD (((q0 % (8 * (((l.take 200)).length))) + i26) / 8) 0).toNat) (bshl 8 1 (((q0 % (8 * (((l.take 200)).length))) + i26) % 8)) : Nat) : Int))) rfl (by kernel_rfl) (by kernel_rfl) hr37 ?_
              refine region_rule ?_
              refine ops_rule (C := []) [(g21, .cells cur37 5)] [] 1 [] 0 (fun φ40 => [(8, .bool false)]) (fun φ40 => [(g21, .cells cur37 5)]) (fun φ40 => []) s trivial (fun φ40 => by kernel_rfl) ?_
              intro φ40 w40 s
              refine ops_done (by kernel_rfl) ?_
              refine region_rule ?_
              refine ops_rule (C := []) [(g21, .cells cur37 5)] [] 2 [] 0 (fun φ41 => [(29, .int .i64 (IntKind.wrap .i64 (((i26 : Nat) : Int) + ((1 : Nat) : Int)))), (62, .int .i64 (IntKind.wrap .i64 (((i26 : Nat) : Int) + ((1 : Nat) : Int))))]) (fun φ41 => [(g21, .cells cur37 5)]) (fun φ41 => []) s trivial (fun φ41 => by kernel_rfl) ?_
              intro φ41 w41 s
              rw [nat_addI (a := i26) (b := 1) (by have hlt := List.length_take (i := 200) (l := l); have hz0 := of_decide_eq_false hc13; have hmod := Nat.mod_lt q0 (show 0 < 8 * ((l.take 200)).length by omega); have hqn := hi26_1.1;  have hq0 := of_decide_eq_false hc13; have hq1 := of_decide_eq_false hc17; have hq2 := of_decide_eq_true hc28; have hq3 := of_decide_eq_true hc33; have hq4 := of_decide_eq_true hc36; omega)]
              refine ops_done (by kernel_rfl) ?_
              have hq9 := of_decide_eq_true hc28
              exact ⟨⟨m26 - 1, (i26 + 1, (q26.set (((q0 % (8 * (((l.take 200)).length))) + i26) / 8) (UInt8.ofNat (bxor 8 ((q26.getD (((q0 % (8 * (((l.take 200)).length))) + i26) / 8) 0).toNat) (bshl 8 1 (((q0 % (8 * (((l.take 200)).length))) + i26) % 8))))), cur37, false), _, _, _, by omega, rfl, s, (List.Sublist.cons₂ _ List.Sublist.slnil), by kernel_rfl, hle25, by show i26 + 1 + (m26 - 1) = 32; omega, Turned.flip hi26_1 (by have hlt := List.length_take (i := 200) (l := l); have hz0 := of_decide_eq_false hc13; have hmod := Nat.mod_lt q0 (show 0 < 8 * ((l.take 200)).length by omega); have hqn := hi26_1.1;  have h8 := of_decide_eq_true hc33; omega), hrow37⟩⟩
          ·
            rw [hc36]
            refine cond_false_rule (b := false) (by kernel_rfl) rfl ?_
            refine wp_skip ?_
            refine region_rule ?_
            refine ops_rule (C := []) [(g21, .cells cur26 5)] [] 2 [] 0 (fun φ42 => [(29, .int .i64 (IntKind.wrap .i64 (((i26 : Nat) : Int) + ((1 : Nat) : Int)))), (62, .int .i64 (IntKind.wrap .i64 (((i26 : Nat) : Int) + ((1 : Nat) : Int))))]) (fun φ42 => [(g21, .cells cur26 5)]) (fun φ42 => []) s trivial (fun φ42 => by kernel_rfl) ?_
            intro φ42 w42 s
            rw [nat_addI (a := i26) (b := 1) (by have hlt := List.length_take (i := 200) (l := l); have hz0 := of_decide_eq_false hc13; have hmod := Nat.mod_lt q0 (show 0 < 8 * ((l.take 200)).length by omega); have hqn := hi26_1.1;  have hq0 := of_decide_eq_false hc13; have hq1 := of_decide_eq_false hc17; have hq2 := of_decide_eq_true hc28; have hq3 := of_decide_eq_true hc33; have hq4 := of_decide_eq_false hc36; omega)]
            refine ops_done (by kernel_rfl) ?_
            have hq9 := of_decide_eq_true hc28
            exact ⟨⟨m26 - 1, (i26 + 1, q26, cur26, s26), _, _, _, by omega, rfl, s, (List.Sublist.cons₂ _ List.Sublist.slnil), by kernel_rfl, hle25, by show i26 + 1 + (m26 - 1) = 32; omega, Turned.skip hi26_1, hi26_2⟩⟩
        ·
          rw [hc33]
          refine ops_rule (C := []) [(g21, .cells cur26 5)] [] 6 [] 0 (fun φ43 => [(51, .bool false), (50, undef), (49, undef), (48, undef), (47, undef), (46, undef)]) (fun φ43 => [(g21, .cells cur26 5)]) (fun φ43 => []) s trivial (fun φ43 => by kernel_rfl) ?_
          intro φ43 w43 s
          refine ops_done (by kernel_rfl) ?_
          refine cond_false_rule (b := false) (by kernel_rfl) rfl ?_
          refine wp_skip ?_
          refine region_rule ?_
          refine ops_rule (C := []) [(g21, .cells cur26 5)] [] 2 [] 0 (fun φ44 => [(29, .int .i64 (IntKind.wrap .i64 (((i26 : Nat) : Int) + ((1 : Nat) : Int)))), (62, .int .i64 (IntKind.wrap .i64 (((i26 : Nat) : Int) + ((1 : Nat) : Int))))]) (fun φ44 => [(g21, .cells cur26 5)]) (fun φ44 => []) s trivial (fun φ44 => by kernel_rfl) ?_
          intro φ44 w44 s
          rw [nat_addI (a := i26) (b := 1) (by have hlt := List.length_take (i := 200) (l := l); have hz0 := of_decide_eq_false hc13; have hmod := Nat.mod_lt q0 (show 0 < 8 * ((l.take 200)).length by omega); have hqn := hi26_1.1;  have hq0 := of_decide_eq_false hc13; have hq1 := of_decide_eq_false hc17; have hq2 := of_decide_eq_true hc28; have hq3 := of_decide_eq_false hc33; omega)]
          refine ops_done (by kernel_rfl) ?_
          have hq9 := of_decide_eq_true hc28
          exact ⟨⟨m26 - 1, (i26 + 1, q26, cur26, s26), _, _, _, by omega, rfl, s, (List.Sublist.cons₂ _ List.Sublist.slnil), by kernel_rfl, hle25, by show i26 + 1 + (m26 - 1) = 32; omega, Turned.skip hi26_1, hi26_2⟩⟩
      ·
        rw [hc28]
        refine cond_false_rule (b := false) (by kernel_rfl) rfl ?_
        refine wp_exit ?_
        refine wp_seq ?_
        refine region_rule ?_
        refine ops_rule (C := []) [(g21, .cells cur26 5)] [] 2 [] 0 (fun φ45 => [(64, .bool s26), (63, .bool s26)]) (fun φ45 => [(g21, .cells cur26 5)]) (fun φ45 => []) s trivial (fun φ45 => by kernel_rfl) ?_
        intro φ45 w45 s
        rcases Bool.eq_false_or_eq_true (s26) with hc46 | hc46
        ·
          rw [hc46]
          refine ops_rule (C := []) [(g21, .cells cur26 5)] [] 7 [] 0 (fun φ47 => [(6, .bool true), (70, .bool true), (69, undef), (68, undef), (67, undef), (66, undef), (65, undef)]) (fun φ47 => [(g21, .cells cur26 5)]) (fun φ47 => []) s trivial (fun φ47 => by kernel_rfl) ?_
          intro φ47 w47 s
          refine ops_done (by kernel_rfl) ?_
          refine wp_ret ?_
          refine ret_rule (C := []) [(g21, .cells cur26 5)] [] (.bool true) [] [] s trivial (by kernel_rfl) ?_
          exact ⟨_, _, _, rfl, s, rfl⟩
        ·
          rw [hc46]
          refine ops_rule (C := []) [(g21, .cells cur26 5)] [] 1 [] 0 (fun φ48 => [(65, .slice (some ⟨g21, 0, none⟩) (((l.take 200)).length) cap21)]) (fun φ48 => [(g21, .cells cur26 5)]) (fun φ48 => []) s trivial (fun φ48 => by kernel_rfl) ?_
          intro φ48 w48 s
          have hle49 : IM.Le I26 (IM.add I26 g21 (.cells cur26 5)) := IM.le_add (s.free (g21, .cells cur26 5) (by simp)) _
          refine callL_rule (H := ([(g21, .cells cur26 5)] ++ [])) (R := fun v => v = .int .u32 ((4294967295 - crc 4294967295 q26 : Nat) : Int)) (some 66) s (IM.add I26 g21 (.cells cur26 5)) hle49 (add_sub (by simp)) (sum_c (row_lend (I := I26) hi26_2) (by have h9 := hi26_1.1; simp only [List.length_take] at h9; omega)) (by kernel_rfl) ?_
          intro v50 w50 h50 s
          obtain rfl := h50
          refine ops_rule (C := []) [(g21, .cells cur26 5)] [] 1 [] 0 (fun φ51 => [(67, .slice a5 (List.length (l.take 200)) c5)]) (fun φ51 => [(g21, .cells cur26 5)]) (fun φ51 => []) s trivial (fun φ51 => by kernel_rfl) ?_
          intro φ51 w51 s
          refine call_rule (some 68) s (sum_c h5_0 (by simp only [List.length_take]; omega)) (by kernel_rfl) ?_
          intro v52 I52 w52 le52 h52 s
          replace hl := BSl.mono le52 hl
          replace h5_0 := BSl.mono le52 h5_0
          replace hle25 := leMono le52 hle25
          obtain rfl := h52
          refine ops_rule (C := []) [(g21, .cells cur26 5)] [] 3 [] 0 (fun φ53 => [(6, .bool (((4294967295 - crc 4294967295 q26 : Nat) : Int) != ((4294967295 - crc 4294967295 (l.take 200) : Nat) : Int))), (70, .bool (((4294967295 - crc 4294967295 q26 : Nat) : Int) != ((4294967295 - crc 4294967295 (l.take 200) : Nat) : Int))), (69, .bool (((4294967295 - crc 4294967295 q26 : Nat) : Int) != ((4294967295 - crc 4294967295 (l.take 200) : Nat) : Int)))]) (fun φ53 => [(g21, .cells cur26 5)]) (fun φ53 => []) s trivial (fun φ53 => by kernel_rfl) ?_
          intro φ53 w53 s
          rw [nat_neq (a := (4294967295 - crc 4294967295 q26)) (b := (4294967295 - crc 4294967295 (l.take 200)))]
          refine ops_done (by kernel_rfl) ?_
          refine wp_ret ?_
          refine ret_rule (C := []) [(g21, .cells cur26 5)] [] (.bool (decide ((4294967295 - crc 4294967295 q26) ≠ (4294967295 - crc 4294967295 (l.take 200))))) [] [] s trivial (by kernel_rfl) ?_
          exact ⟨_, _, _, rfl, s, (congrArg Value.bool (decide_eq_true (by have h9 := hi26_1; have h8 := of_decide_eq_false hc28; rw [hc46, show i26 = 32 by omega] at h9; exact h9.seen (by have hlt := List.length_take (i := 200) (l := l); have hz0 := of_decide_eq_false hc13; have hmod := Nat.mod_lt q0 (show 0 < 8 * ((l.take 200)).length by omega); have hqn := hi26_1.1;  omega))))⟩

end Go.Proofs.Ytpnlaeapnokipaa

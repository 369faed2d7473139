/- BitsWrites. -/
import Derived.Test.YtpnlaeapnokipaaBwB11
set_option linter.all false
set_option maxRecDepth 100000
namespace Go.Proofs.Ytpnlaeapnokipaa
open Go.RowKit Go.Sep
attribute [local irreducible] Go.wpList Go.Code.wp

set_option maxHeartbeats 8000000 in
theorem bitsWrites_c {I : IM} {L : List Tri} {a : Option Addr} {n c : Nat} (hA : TSl I L (.slice a n c)) : Fun Try.prog 3 #[.slice a n c] I (fun v J => v = .bool true) := by
  obtain ⟨rfl, -⟩ := hA.cap
  obtain ⟨M, hM1, h25, hM3, hM4⟩ := tsl_cut hA
  refine enter_rule 148 [(0, .slice a L.length c)] Try.func3 rfl (by kernel_rfl) ?_
  intro w s
  refine wp_seq ?_
  refine region_rule ?_
  refine ops_rule (C := []) [] [] 1 [] 0 (fun φ1 => [(2, .bool false)]) (fun φ1 => []) (fun φ1 => []) s trivial (fun φ1 => by kernel_rfl) ?_
  intro φ1 w1 s
  refine ops_done (by kernel_rfl) ?_
  refine wp_seq ?_
  refine wp_seq ?_
  refine region_rule ?_
  refine call_rule (some 12) s (awake5_c) (by kernel_rfl) ?_
  intro v2 I2 w2 le2 h2 s
  replace hM4 := TSl.mono le2 hM4
  obtain rfl := h2
  refine ops_rule (C := []) [] [] 1 [] 0 (fun φ3 => [(13, .bool false)]) (fun φ3 => []) (fun φ3 => []) s trivial (fun φ3 => by kernel_rfl) ?_
  intro φ3 w3 s
  refine ops_done (by kernel_rfl) ?_
  refine cond_false_rule (b := false) (by kernel_rfl) rfl ?_
  refine wp_skip ?_
  refine wp_seq ?_
  refine region_rule ?_
  refine callF_rule (H := []) (F := []) (some 14) s (newWriter_c) (by kernel_rfl) ?_
  rintro v4 I4 w4 F4 le4 ⟨b4, rfl, rfl⟩ s
  replace hM4 := TSl.mono le4 hM4
  refine ops_rule (C := []) [(b4, .cells #[.slice none 0 0, .int .i64 0] 96)] [] 1 [] 0 (fun φ5 => [(3, .pointer (some ⟨b4, 0, none⟩))]) (fun φ5 => [(b4, .cells #[.slice none 0 0, .int .i64 0] 96)]) (fun φ5 => []) s trivial (fun φ5 => by kernel_rfl) ?_
  intro φ5 w5 s
  refine ops_done (by kernel_rfl) ?_
  refine wp_seq ?_
  refine region_rule ?_
  refine ops_rule (C := []) [(b4, .cells #[.slice none 0 0, .int .i64 0] 96)] [] 1 [] 0 (fun φ6 => [(4, .slice none 0 0)]) (fun φ6 => [(b4, .cells #[.slice none 0 0, .int .i64 0] 96)]) (fun φ6 => []) s trivial (fun φ6 => by kernel_rfl) ?_
  intro φ6 w6 s
  refine ops_done (by kernel_rfl) ?_
  refine wp_seq ?_
  refine region_rule ?_
  refine ops_rule (C := []) [(b4, .cells #[.slice none 0 0, .int .i64 0] 96)] [] 4 [] 0 (fun φ7 => [(18, .int .i64 (if ((25 : Nat) : Int) < ((L.length : Nat) : Int) then ((25 : Nat) : Int) else ((L.length : Nat) : Int))), (17, .int .i64 ((L.length : Nat) : Int)), (16, .slice a L.length c), (15, .slice a L.length c)]) (fun φ7 => [(b4, .cells #[.slice none 0 0, .int .i64 0] 96)]) (fun φ7 => []) s trivial (fun φ7 => by kernel_rfl) ?_
  intro φ7 w7 s
  rw [nat_min (a := L.length) (b := 25)]
  refine sem_rule (Instr.sliceAt 22 (.slice a L.length c) none (some (.int .i64 ((min L.length 25 : Nat) : Int))) none) (some 19) (.slice a M.length c) (by kernel_rfl) (run_toT (h := M.length) (by rw [hM1]) hM3) ?_
  refine ops_rule (C := []) [(b4, .cells #[.slice none 0 0, .int .i64 0] 96)] [] 1 [] 0 (fun φ8 => [(0, .slice a M.length c)]) (fun φ8 => [(b4, .cells #[.slice none 0 0, .int .i64 0] 96)]) (fun φ8 => []) s trivial (fun φ8 => by kernel_rfl) ?_
  intro φ8 w8 s
  refine ops_done (by kernel_rfl) ?_
  refine wp_seq ?_
  refine wp_seq ?_
  refine region_rule ?_
  refine ops_rule (C := []) [(b4, .cells #[.slice none 0 0, .int .i64 0] 96)] [] 3 [] 0 (fun φ9 => [(22, .int .i64 0), (21, .int .i64 ((M.length : Nat) : Int)), (20, .slice a M.length c)]) (fun φ9 => [(b4, .cells #[.slice none 0 0, .int .i64 0] 96)]) (fun φ9 => []) s trivial (fun φ9 => by kernel_rfl) ?_
  intro φ9 w9 s
  refine ops_done (by kernel_rfl) ?_
  refine wp_block ?_
  have hle10 := IM.Le.refl I4
  refine loop_rule (fun (x : Nat × Value × List OB × Option Addr × Nat) => [(0, .slice a M.length c), (2, .bool false), (3, .pointer (some ⟨b4, 0, none⟩)), (20, .slice a M.length c), (21, .int .i64 ((M.length : Nat) : Int)), (22, .int .i64 ((x.1 : Nat) : Int)), (4, .slice x.2.2.2.1 (List.length (wA (M.take x.1))) x.2.2.2.2)]) (fun (x : Nat × Value × List OB × Option Addr × Nat) => [(b4, .cells #[x.2.1, .int .i64 ((List.length (wA (M.take x.1)) : Nat) : Int)] 96)] ++ x.2.2.1) (fun m (x : Nat × Value × List OB × Option Addr × Nat) J => IM.Le I4 J ∧ x.1 + m = M.length ∧ RowH 5 1 x.2.1 (pk (wA (M.take x.1))).length ((pk (wA (M.take x.1))).map bV) x.2.2.1 ∧ BoS J (wA (M.take x.1)) (.slice x.2.2.2.1 (List.length (wA (M.take x.1))) x.2.2.2.2)) (M.length) (0, (.slice none 0 0), [], none, 0) s (by kernel_rfl) (List.Sublist.refl _) ⟨IM.Le.refl _, Nat.zero_add _, row_nilB, bos_nil _⟩ ?_
  rintro m11 ⟨i11, v11, F11, a11, c11⟩ I11 w11 ev11 s ⟨le11, hi11_0, hi11_1, hi11_2⟩
  try dsimp only at s hi11_0 hi11_1 hi11_2 ⊢
  replace hM4 := TSl.mono le11 hM4
  replace hle10 := leMono le11 hle10
  refine wp_seq ?_
  refine region_rule ?_
  refine ops_rule (C := []) [(b4, .cells #[v11, .int .i64 ((List.length (wA (M.take i11)) : Nat) : Int)] 96)] F11 1 [] 0 (fun φ12 => [(23, .bool (decide (((i11 : Nat) : Int) < ((M.length : Nat) : Int))))]) (fun φ12 => [(b4, .cells #[v11, .int .i64 ((List.length (wA (M.take i11)) : Nat) : Int)] 96)]) (fun φ12 => []) s trivial (fun φ12 => by kernel_rfl) ?_
  intro φ12 w12 s
  rw [nat_lss (a := i11) (b := M.length)]
  refine ops_done (by kernel_rfl) ?_
  refine wp_seq ?_
  rcases Bool.eq_false_or_eq_true (decide (i11 < M.length)) with hc13 | hc13
  ·
    rw [hc13]
    refine cond_true_rule (b := true) (by kernel_rfl) rfl ?_
    refine wp_skip ?_
    refine wp_seq ?_
    refine wp_block ?_
    refine wp_seq ?_
    refine region_rule ?_
    refine sem_rule (Instr.indexAt 22 (.slice a M.length c) (.int .i64 ((i11 : Nat) : Int))) (some 24) (.pointer (pAt a (i11 * 3))) (by kernel_rfl) (tsl_idx hM4 ((of_decide_eq_true hc13))) ?_
    refine sem_rule (Instr.loadAt 29 (.pointer (pAt a (i11 * 3)))) (some 25) (.agg #[.int .u8 (((M.getD i11 (0, 0, 0)).1 : Nat) : Int), .int .u64 (((M.getD i11 (0, 0, 0)).2.1 : Nat) : Int), .int .i64 ((M.getD i11 (0, 0, 0)).2.2)]) (by kernel_rfl) (tsl_ld s.sub hM4 ((of_decide_eq_true hc13))) ?_
    refine ops_rule (C := []) [(b4, .cells #[v11, .int .i64 ((List.length (wA (M.take i11)) : Nat) : Int)] 96)] F11 2 [.o 1, .o 1, .o 1] 1 (fun φ14 => [(6, .pointer (some ⟨(φ14 0), 0, none⟩))]) (fun φ14 => [(b4, .cells #[v11, .int .i64 ((List.length (wA (M.take i11)) : Nat) : Int)] 96), ((φ14 0), .cells #[.int .u8 (((M.getD i11 (0, 0, 0)).1 : Nat) : Int), .int .u64 (((M.getD i11 (0, 0, 0)).2.1 : Nat) : Int), .int .i64 ((M.getD i11 (0, 0, 0)).2.2)] 29)]) (fun φ14 => [(φ14 0), (φ14 0), (φ14 0)]) s trivial (fun φ14 => by kernel_rfl) ?_
    intro φ14 w14 s
    obtain ⟨I15, le15, hk15, s⟩ := s.freezeAt 1 (φ14 0) (.cells #[.int .u8 (((M.getD i11 (0, 0, 0)).1 : Nat) : Int), .int .u64 (((M.getD i11 (0, 0, 0)).2.1 : Nat) : Int), .int .i64 ((M.getD i11 (0, 0, 0)).2.2)] 29) ([(b4, .cells #[v11, .int .i64 ((List.length (wA (M.take i11)) : Nat) : Int)] 96)] ++ F11) (by kernel_rfl) (by kernel_rfl)
    replace hM4 := TSl.mono le15 hM4
    replace hle10 := leMono le15 hle10
    replace hi11_2 := BoS.mono le15 hi11_2
    refine ops_done (by kernel_rfl) ?_
    refine wp_seq ?_
    refine region_rule ?_
    refine ops_rule (C := [((φ14 0), .cells #[.int .u8 (((M.getD i11 (0, 0, 0)).1 : Nat) : Int), .int .u64 (((M.getD i11 (0, 0, 0)).2.1 : Nat) : Int), .int .i64 ((M.getD i11 (0, 0, 0)).2.2)] 29)]) [(b4, .cells #[v11, .int .i64 ((List.length (wA (M.take i11)) : Nat) : Int)] 96)] F11 4 [.c 0] 0 (fun φ16 => [(29, .bool ((Int.tmod (((M.getD i11 (0, 0, 0)).1 : Nat) : Int) ((2 : Nat) : Int)) == ((0 : Nat) : Int))), (28, .int .u8 (Int.tmod (((M.getD i11 (0, 0, 0)).1 : Nat) : Int) ((2 : Nat) : Int))), (27, .int .u8 (((M.getD i11 (0, 0, 0)).1 : Nat) : Int)), (26, .pointer (some ⟨(φ14 0), 0, none⟩))]) (fun φ16 => [(b4, .cells #[v11, .int .i64 ((List.length (wA (M.take i11)) : Nat) : Int)] 96)]) (fun φ16 => [(φ14 0)]) s ⟨hk15, trivial⟩ (fun φ16 => by kernel_rfl) ?_
    intro φ16 w16 s
    rw [nat_rem (a := ((M.getD i11 (0, 0, 0)).1)) (b := 2)]
    rw [nat_eql (a := (((M.getD i11 (0, 0, 0)).1) % 2)) (b := 0)]
    refine ops_done (by kernel_rfl) ?_
    rcases Bool.eq_false_or_eq_true (decide ((((M.getD i11 (0, 0, 0)).1) % 2) = 0)) with hc17 | hc17
    ·
      rw [hc17]
      refine cond_true_rule (b := true) (by kernel_rfl) rfl ?_
      refine wp_seq ?_
      refine region_rule ?_
      refine ops_rule (C := [((φ14 0), .cells #[.int .u8 (((M.getD i11 (0, 0, 0)).1 : Nat) : Int), .int .u64 (((M.getD i11 (0, 0, 0)).2.1 : Nat) : Int), .int .i64 ((M.getD i11 (0, 0, 0)).2.2)] 29)]) [(b4, .cells #[v11, .int .i64 ((List.length (wA (M.take i11)) : Nat) : Int)] 96)] F11 5 [.c 0, .c 0] 0 (fun φ18 => [(34, .int .i64 ((M.getD i11 (0, 0, 0)).2.2)), (33, .pointer (some ⟨(φ14 0), 2, none⟩)), (32, .int .u64 (((M.getD i11 (0, 0, 0)).2.1 : Nat) : Int)), (31, .pointer (some ⟨(φ14 0), 1, none⟩)), (30, .pointer (some ⟨b4, 0, none⟩))]) (fun φ18 => [(b4, .cells #[v11, .int .i64 ((List.length (wA (M.take i11)) : Nat) : Int)] 96)]) (fun φ18 => [(φ14 0), (φ14 0)]) s ⟨hk15, trivial⟩ (fun φ18 => by kernel_rfl) ?_
      intro φ18 w18 s
      refine callH_rule (b := (b4, .cells #[v11, .int .i64 ((List.length (wA (M.take i11)) : Nat) : Int)] 96)) (H := [(b4, .cells #[v11, .int .i64 ((List.length (wA (M.take i11)) : Nat) : Int)] 96)]) (F := F11) (Hr := []) (some 35) 0 s (by kernel_rfl) (by kernel_rfl) (putZ_c (b := b4) (cnt := List.length (wA (M.take i11))) (bs := (wA (M.take i11))) (v0 := v11) (n := (M.getD i11 (0, 0, 0)).2.1) (k := (clampN ((M.getD i11 (0, 0, 0)).2.2))) (z := (M.getD i11 (0, 0, 0)).2.2) rfl (by have h7 := wA_len (M.take i11); rw [List.length_take] at h7; omega) hi11_1 rfl ((tsl_bd hM4 (of_decide_eq_true hc13)).2) (clampN_le _)) (by kernel_rfl) ?_
      rintro v19 I19 w19 b19 F19 le19 - h19 s
      replace hM4 := TSl.mono le19 hM4
      replace hle10 := leMono le19 hle10
      replace hi11_2 := BoS.mono le19 hi11_2
      replace hk15 := le19 _ _ hk15
      obtain ⟨v19, rfl, rfl, hr19⟩ := h19
      refine ops_done (by kernel_rfl) ?_
      refine region_rule ?_
      refine ops_rule (C := [((φ14 0), .cells #[.int .u8 (((M.getD i11 (0, 0, 0)).1 : Nat) : Int), .int .u64 (((M.getD i11 (0, 0, 0)).2.1 : Nat) : Int), .int .i64 ((M.getD i11 (0, 0, 0)).2.2)] 29)]) [(b4, .cells #[v19, .int .i64 ((List.length (wA (M.take i11)) + (clampN ((M.getD i11 (0, 0, 0)).2.2)) : Nat) : Int)] 96)] F19 5 [.c 0, .c 0] 0 (fun φ20 => [(40, .int .i64 ((M.getD i11 (0, 0, 0)).2.2)), (39, .pointer (some ⟨(φ14 0), 2, none⟩)), (38, .int .u64 (((M.getD i11 (0, 0, 0)).2.1 : Nat) : Int)), (37, .pointer (some ⟨(φ14 0), 1, none⟩)), (36, .slice a11 (List.length (wA (M.take i11))) c11)]) (fun φ20 => [(b4, .cells #[v19, .int .i64 ((List.length (wA (M.take i11)) + (clampN ((M.getD i11 (0, 0, 0)).2.2)) : Nat) : Int)] 96)]) (fun φ20 => [(φ14 0), (φ14 0)]) s ⟨hk15, trivial⟩ (fun φ20 => by kernel_rfl) ?_
      intro φ20 w20 s
      refine call_rule (some 41) s (refputZ_c (n := (M.getD i11 (0, 0, 0)).2.1) (k := (clampN ((M.getD i11 (0, 0, 0)).2.2))) (z := (M.getD i11 (0, 0, 0)).2.2) hi11_2 (by have h7 := wA_len (M.take i11); rw [List.length_take] at h7; omega) rfl ((tsl_bd hM4 (of_decide_eq_true hc13)).2) (clampN_le _)) (by kernel_rfl) ?_
      intro v21 I21 w21 le21 h21 s
      replace hM4 := TSl.mono le21 hM4
      replace hle10 := leMono le21 hle10
      replace hi11_2 := BoS.mono le21 hi11_2
      replace hk15 := le21 _ _ hk15
      obtain ⟨a21, c21, rfl, h21_0⟩ := h21
      refine ops_rule (C := []) [(b4, .cells #[v19, .int .i64 ((List.length (wA (M.take i11)) + (clampN ((M.getD i11 (0, 0, 0)).2.2)) : Nat) : Int)] 96)] F19 1 [] 0 (fun φ22 => [(4, .slice a21 (List.length ((wA (M.take i11)) ++ putBits ((M.getD i11 (0, 0, 0)).2.1) (clampN ((M.getD i11 (0, 0, 0)).2.2)))) c21)]) (fun φ22 => [(b4, .cells #[v19, .int .i64 ((List.length (wA (M.take i11)) + (clampN ((M.getD i11 (0, 0, 0)).2.2)) : Nat) : Int)] 96)]) (fun φ22 => []) s trivial (fun φ22 => by kernel_rfl) ?_
      intro φ22 w22 s
      refine ops_done (by kernel_rfl) ?_
      refine region_rule ?_
      refine ops_rule (C := []) [(b4, .cells #[v19, .int .i64 ((List.length (wA (M.take i11)) + (clampN ((M.getD i11 (0, 0, 0)).2.2)) : Nat) : Int)] 96)] F19 2 [] 0 (fun φ23 => [(22, .int .i64 (IntKind.wrap .i64 (((i11 : Nat) : Int) + ((1 : Nat) : Int)))), (50, .int .i64 (IntKind.wrap .i64 (((i11 : Nat) : Int) + ((1 : Nat) : Int))))]) (fun φ23 => [(b4, .cells #[v19, .int .i64 ((List.length (wA (M.take i11)) + (clampN ((M.getD i11 (0, 0, 0)).2.2)) : Nat) : Int)] 96)]) (fun φ23 => []) s trivial (fun φ23 => by kernel_rfl) ?_
      intro φ23 w23 s
      rw [nat_addI (a := i11) (b := 1) (by have hz1 := wA_len M; have hz2 := pk_len (wA M); have hz3 := tsl_bd hM4 (of_decide_eq_true hc13); have hq0 := of_decide_eq_true hc13; have hq1 := of_decide_eq_true hc17; omega)]
      refine ops_done (by kernel_rfl) ?_
      have hq9 := (of_decide_eq_true hc13)
      have e9 : ((wA (M.take i11)) ++ putBits ((M.getD i11 (0, 0, 0)).2.1) (clampN ((M.getD i11 (0, 0, 0)).2.2))) = (wA (M.take (i11 + 1))) := (by rw [← actB_0 (t := (M.getD i11 (0, 0, 0))) (of_decide_eq_true hc17)]; exact wA_snoc hq9)
      have e10 : List.length (wA (M.take i11)) + (clampN ((M.getD i11 (0, 0, 0)).2.2)) = List.length (wA (M.take (i11 + 1))) := (by rw [← e9, List.length_append]; rw [putBits_len])
      rw [e10] at s
      rw [e9]
      have hr9 := row_cast hr19 (congrArg pk e9)
      have hb9 := h21_0
      rw [e9] at hb9
      exact ⟨⟨m11 - 1, (i11 + 1, v19, F19, a21, c21), _, _, _, by omega, rfl, s, (List.Sublist.append (List.Sublist.cons₂ _ List.Sublist.slnil) (List.Sublist.refl _)), by kernel_rfl, hle10, by show i11 + 1 + (m11 - 1) = M.length; omega, hr9, hb9⟩⟩
    ·
      rw [hc17]
      refine cond_false_rule (b := false) (by kernel_rfl) rfl ?_
      refine wp_seq ?_
      refine region_rule ?_
      refine ops_rule (C := [((φ14 0), .cells #[.int .u8 (((M.getD i11 (0, 0, 0)).1 : Nat) : Int), .int .u64 (((M.getD i11 (0, 0, 0)).2.1 : Nat) : Int), .int .i64 ((M.getD i11 (0, 0, 0)).2.2)] 29)]) [(b4, .cells #[v11, .int .i64 ((List.length (wA (M.take i11)) : Nat) : Int)] 96)] F11 3 [.c 0] 0 (fun φ24 => [(44, .int .u64 (((M.getD i11 (0, 0, 0)).2.1 : Nat) : Int)), (43, .pointer (some ⟨(φ14 0), 1, none⟩)), (42, .pointer (some ⟨b4, 0, none⟩))]) (fun φ24 => [(b4, .cells #[v11, .int .i64 ((List.length (wA (M.take i11)) : Nat) : Int)] 96)]) (fun φ24 => [(φ14 0)]) s ⟨hk15, trivial⟩ (fun φ24 => by kernel_rfl) ?_
      intro φ24 w24 s
      refine callH_rule (b := (b4, .cells #[v11, .int .i64 ((List.length (wA (M.take i11)) : Nat) : Int)] 96)) (H := [(b4, .cells #[v11, .int .i64 ((List.length (wA (M.take i11)) : Nat) : Int)] 96)]) (F := F11) (Hr := []) (some 45) 0 s (by kernel_rfl) (by kernel_rfl) (num_c (b := b4) (cnt := List.length (wA (M.take i11))) (bs := (wA (M.take i11))) (v0 := v11) (n := (M.getD i11 (0, 0, 0)).2.1) rfl (by have h7 := wA_len (M.take i11); rw [List.length_take] at h7; omega) hi11_1 ((tsl_bd hM4 (of_decide_eq_true hc13)).2)) (by kernel_rfl) ?_
      rintro v25 I25 w25 b25 F25 le25 - h25 s
      replace hM4 := TSl.mono le25 hM4
      replace hle10 := leMono le25 hle10
      replace hi11_2 := BoS.mono le25 hi11_2
      replace hk15 := le25 _ _ hk15
      obtain ⟨v25, rfl, rfl, hr25⟩ := h25
      refine ops_done (by kernel_rfl) ?_
      refine region_rule ?_
      refine ops_rule (C := [((φ14 0), .cells #[.int .u8 (((M.getD i11 (0, 0, 0)).1 : Nat) : Int), .int .u64 (((M.getD i11 (0, 0, 0)).2.1 : Nat) : Int), .int .i64 ((M.getD i11 (0, 0, 0)).2.2)] 29)]) [(b4, .cells #[v25, .int .i64 ((List.length (wA (M.take i11)) + (numW 62 2 ((M.getD i11 (0, 0, 0)).2.1)).length : Nat) : Int)] 96)] F25 3 [.c 0] 0 (fun φ26 => [(48, .int .u64 (((M.getD i11 (0, 0, 0)).2.1 : Nat) : Int)), (47, .pointer (some ⟨(φ14 0), 1, none⟩)), (46, .slice a11 (List.length (wA (M.take i11))) c11)]) (fun φ26 => [(b4, .cells #[v25, .int .i64 ((List.length (wA (M.take i11)) + (numW 62 2 ((M.getD i11 (0, 0, 0)).2.1)).length : Nat) : Int)] 96)]) (fun φ26 => [(φ14 0)]) s ⟨hk15, trivial⟩ (fun φ26 => by kernel_rfl) ?_
      intro φ26 w26 s
      refine call_rule (some 49) s (refnum_c (n := (M.getD i11 (0, 0, 0)).2.1) hi11_2 (by have h7 := wA_len (M.take i11); rw [List.length_take] at h7; omega) ((tsl_bd hM4 (of_decide_eq_true hc13)).2)) (by kernel_rfl) ?_
      intro v27 I27 w27 le27 h27 s
      replace hM4 := TSl.mono le27 hM4
      replace hle10 := leMono le27 hle10
      replace hi11_2 := BoS.mono le27 hi11_2
      replace hk15 := le27 _ _ hk15
      obtain ⟨a27, c27, rfl, h27_0⟩ := h27
      refine ops_rule (C := []) [(b4, .cells #[v25, .int .i64 ((List.length (wA (M.take i11)) + (numW 62 2 ((M.getD i11 (0, 0, 0)).2.1)).length : Nat) : Int)] 96)] F25 1 [] 0 (fun φ28 => [(4, .slice a27 (List.length ((wA (M.take i11)) ++ numW 62 2 ((M.getD i11 (0, 0, 0)).2.1))) c27)]) (fun φ28 => [(b4, .cells #[v25, .int .i64 ((List.length (wA (M.take i11)) + (numW 62 2 ((M.getD i11 (0, 0, 0)).2.1)).length : Nat) : Int)] 96)]) (fun φ28 => []) s trivial (fun φ28 => by kernel_rfl) ?_
      intro φ28 w28 s
      refine ops_done (by kernel_rfl) ?_
      refine region_rule ?_
      refine ops_rule (C := []) [(b4, .cells #[v25, .int .i64 ((List.length (wA (M.take i11)) + (numW 62 2 ((M.getD i11 (0, 0, 0)).2.1)).length : Nat) : Int)] 96)] F25 2 [] 0 (fun φ29 => [(22, .int .i64 (IntKind.wrap .i64 (((i11 : Nat) : Int) + ((1 : Nat) : Int)))), (50, .int .i64 (IntKind.wrap .i64 (((i11 : Nat) : Int) + ((1 : Nat) : Int))))]) (fun φ29 => [(b4, .cells #[v25, .int .i64 ((List.length (wA (M.take i11)) + (numW 62 2 ((M.getD i11 (0, 0, 0)).2.1)).length : Nat) : Int)] 96)]) (fun φ29 => []) s trivial (fun φ29 => by kernel_rfl) ?_
      intro φ29 w29 s
      rw [nat_addI (a := i11) (b := 1) (by have hz1 := wA_len M; have hz2 := pk_len (wA M); have hz3 := tsl_bd hM4 (of_decide_eq_true hc13); have hq0 := of_decide_eq_true hc13; have hq1 := of_decide_eq_false hc17; omega)]
      refine ops_done (by kernel_rfl) ?_
      have hq9 := (of_decide_eq_true hc13)
      have e9 : ((wA (M.take i11)) ++ numW 62 2 ((M.getD i11 (0, 0, 0)).2.1)) = (wA (M.take (i11 + 1))) := (by rw [← actB_1 (t := (M.getD i11 (0, 0, 0))) (of_decide_eq_false hc17)]; exact wA_snoc hq9)
      have e10 : List.length (wA (M.take i11)) + (numW 62 2 ((M.getD i11 (0, 0, 0)).2.1)).length = List.length (wA (M.take (i11 + 1))) := (by rw [← e9, List.length_append])
      rw [e10] at s
      rw [e9]
      have hr9 := row_cast hr25 (congrArg pk e9)
      have hb9 := h27_0
      rw [e9] at hb9
      exact ⟨⟨m11 - 1, (i11 + 1, v25, F25, a27, c27), _, _, _, by omega, rfl, s, (List.Sublist.append (List.Sublist.cons₂ _ List.Sublist.slnil) (List.Sublist.refl _)), by kernel_rfl, hle10, by show i11 + 1 + (m11 - 1) = M.length; omega, hr9, hb9⟩⟩
  ·
    rw [hc13]
    refine cond_false_rule (b := false) (by kernel_rfl) rfl ?_
    refine wp_exit ?_
    refine wp_seq ?_
    refine region_rule ?_
    refine ops_rule (C := []) [(b4, .cells #[v11, .int .i64 ((List.length (wA (M.take i11)) : Nat) : Int)] 96)] F11 1 [] 0 (fun φ30 => [(51, .pointer (some ⟨b4, 0, none⟩))]) (fun φ30 => [(b4, .cells #[v11, .int .i64 ((List.length (wA (M.take i11)) : Nat) : Int)] 96)]) (fun φ30 => []) s trivial (fun φ30 => by kernel_rfl) ?_
    intro φ30 w30 s
    have e8 : M.take i11 = M := List.take_of_length_le (by have h6 := hi11_0; have h7 := of_decide_eq_false hc13; omega)
    rw [e8] at s hi11_1 hi11_2 ⊢
    refine callH_rule (b := (b4, .cells #[v11, .int .i64 ((List.length (wA M) : Nat) : Int)] 96)) (H := [(b4, .cells #[v11, .int .i64 ((List.length (wA M) : Nat) : Int)] 96)]) (F := F11) (Hr := []) (some 52) 0 s (by kernel_rfl) (by kernel_rfl) (bytesA_c (b := b4) (cnt := List.length (wA M)) (bs := (wA M)) (v0 := v11) (by have h7 := wA_len M; omega) hi11_1) (by kernel_rfl) ?_
    rintro v31 I31 w31 b31 F31 le31 - h31 s
    replace hM4 := TSl.mono le31 hM4
    replace hle10 := leMono le31 hle10
    replace hi11_2 := BoS.mono le31 hi11_2
    obtain ⟨a31, c31, rfl, rfl, hr31, h31_0⟩ := h31
    refine ops_rule (C := []) [(b4, .cells #[v11, .int .i64 ((List.length (wA M) : Nat) : Int)] 96)] F31 1 [] 0 (fun φ32 => [(7, .slice a31 (List.length (pk (wA M))) c31)]) (fun φ32 => [(b4, .cells #[v11, .int .i64 ((List.length (wA M) : Nat) : Int)] 96)]) (fun φ32 => []) s trivial (fun φ32 => by kernel_rfl) ?_
    intro φ32 w32 s
    refine ops_done (by kernel_rfl) ?_
    refine wp_seq ?_
    refine wp_seq ?_
    refine region_rule ?_
    refine ops_rule (C := []) [(b4, .cells #[v11, .int .i64 ((List.length (wA M) : Nat) : Int)] 96)] F31 1 [] 0 (fun φ33 => [(53, .pointer (some ⟨b4, 0, none⟩))]) (fun φ33 => [(b4, .cells #[v11, .int .i64 ((List.length (wA M) : Nat) : Int)] 96)]) (fun φ33 => []) s trivial (fun φ33 => by kernel_rfl) ?_
    intro φ33 w33 s
    refine callB_rule (b := (b4, .cells #[v11, .int .i64 ((List.length (wA M) : Nat) : Int)] 96)) (H := [(b4, .cells #[v11, .int .i64 ((List.length (wA M) : Nat) : Int)] 96)]) (F := F31) (Hr := []) (some 54) 0 s (by kernel_rfl) (by kernel_rfl) (len_c (b := b4) (cnt := List.length (wA M)) (v0 := v11)) (by kernel_rfl) ?_
    rintro v34 I34 w34 b34 le34 - h34 s
    replace hM4 := TSl.mono le34 hM4
    replace hle10 := leMono le34 hle10
    replace hi11_2 := BoS.mono le34 hi11_2
    replace h31_0 := BSl.mono le34 h31_0
    obtain ⟨rfl, rfl⟩ := h34
    refine ops_rule (C := []) [(b4, .cells #[v11, .int .i64 ((List.length (wA M) : Nat) : Int)] 96)] F31 4 [] 0 (fun φ35 => [(58, .bool (((List.length (wA M) : Nat) : Int) != (((List.length (wA M)) : Nat) : Int))), (57, .bool (((List.length (wA M) : Nat) : Int) != (((List.length (wA M)) : Nat) : Int))), (56, .int .i64 (((List.length (wA M)) : Nat) : Int)), (55, .slice a11 (List.length (wA M)) c11)]) (fun φ35 => [(b4, .cells #[v11, .int .i64 ((List.length (wA M) : Nat) : Int)] 96)]) (fun φ35 => []) s trivial (fun φ35 => by kernel_rfl) ?_
    intro φ35 w35 s
    rw [nat_neq (a := (List.length (wA M))) (b := (List.length (wA M)))]
    rcases Bool.eq_false_or_eq_true (decide ((List.length (wA M)) ≠ (List.length (wA M)))) with hc36 | hc36
    ·
      exact absurd rfl (of_decide_eq_true hc36)
    ·
      rw [hc36]
      refine ops_rule (C := []) [(b4, .cells #[v11, .int .i64 ((List.length (wA M) : Nat) : Int)] 96)] F31 2 [] 0 (fun φ37 => [(60, .slice a11 (List.length (wA M)) c11), (59, .slice a31 (List.length (pk (wA M))) c31)]) (fun φ37 => [(b4, .cells #[v11, .int .i64 ((List.length (wA M) : Nat) : Int)] 96)]) (fun φ37 => []) s trivial (fun φ37 => by kernel_rfl) ?_
      intro φ37 w37 s
      refine call_rule (some 61) s (refBytes_c hi11_2 (by have h7 := wA_len M; omega)) (by kernel_rfl) ?_
      intro v38 I38 w38 le38 h38 s
      replace hM4 := TSl.mono le38 hM4
      replace hle10 := leMono le38 hle10
      replace hi11_2 := BoS.mono le38 hi11_2
      replace h31_0 := BSl.mono le38 h31_0
      obtain ⟨a38, c38, rfl, h38_0⟩ := h38
      refine call_rule (some 62) s (equal_c h31_0 h38_0) (by kernel_rfl) ?_
      intro v39 I39 w39 le39 h39 s
      replace hM4 := TSl.mono le39 hM4
      replace hle10 := leMono le39 hle10
      replace hi11_2 := BoS.mono le39 hi11_2
      replace h31_0 := BSl.mono le39 h31_0
      replace h38_0 := BSl.mono le39 h38_0
      obtain rfl := h39
      refine ops_rule (C := []) [(b4, .cells #[v11, .int .i64 ((List.length (wA M) : Nat) : Int)] 96)] F31 2 [] 0 (fun φ40 => [(64, .bool false), (63, .bool false)]) (fun φ40 => [(b4, .cells #[v11, .int .i64 ((List.length (wA M) : Nat) : Int)] 96)]) (fun φ40 => []) s trivial (fun φ40 => by kernel_rfl) ?_
      intro φ40 w40 s
      refine ops_done (by kernel_rfl) ?_
      refine cond_false_rule (b := false) (by kernel_rfl) rfl ?_
      refine wp_skip ?_
      refine wp_seq ?_
      refine region_rule ?_
      refine ops_rule (C := []) [(b4, .cells #[v11, .int .i64 ((List.length (wA M) : Nat) : Int)] 96)] F31 1 [] 0 (fun φ41 => [(65, .slice a31 (List.length (pk (wA M))) c31)]) (fun φ41 => [(b4, .cells #[v11, .int .i64 ((List.length (wA M) : Nat) : Int)] 96)]) (fun φ41 => []) s trivial (fun φ41 => by kernel_rfl) ?_
      intro φ41 w41 s
      replace s := St.drop (H' := [] ++ []) s (List.nil_sublist _)
      refine callF_rule (H := []) (F := []) (some 66) s (newReader_c h31_0 (pk_short h25)) (by kernel_rfl) ?_
      rintro v42 I42 w42 F42 le42 ⟨b42, a42, c42, rfl, rfl, hb42⟩ s
      replace hM4 := TSl.mono le42 hM4
      replace hle10 := leMono le42 hle10
      replace hi11_2 := BoS.mono le42 hi11_2
      replace h31_0 := BSl.mono le42 h31_0
      replace h38_0 := BSl.mono le42 h38_0
      refine ops_rule (C := []) [(b42, .cells #[.slice a42 (List.length (pk (wA M))) c42, .int .i64 0, .int .i64 0] 99)] [] 1 [] 0 (fun φ43 => [(8, .pointer (some ⟨b42, 0, none⟩))]) (fun φ43 => [(b42, .cells #[.slice a42 (List.length (pk (wA M))) c42, .int .i64 0, .int .i64 0] 99)]) (fun φ43 => []) s trivial (fun φ43 => by kernel_rfl) ?_
      intro φ43 w43 s
      refine ops_done (by kernel_rfl) ?_
      refine wp_seq ?_
      refine wp_seq ?_
      refine region_rule ?_
      refine ops_rule (C := []) [(b42, .cells #[.slice a42 (List.length (pk (wA M))) c42, .int .i64 0, .int .i64 0] 99)] [] 3 [] 0 (fun φ44 => [(69, .int .i64 0), (68, .int .i64 ((M.length : Nat) : Int)), (67, .slice a M.length c)]) (fun φ44 => [(b42, .cells #[.slice a42 (List.length (pk (wA M))) c42, .int .i64 0, .int .i64 0] 99)]) (fun φ44 => []) s trivial (fun φ44 => by kernel_rfl) ?_
      intro φ44 w44 s
      refine ops_done (by kernel_rfl) ?_
      refine wp_block ?_
      have hle45 := IM.Le.refl I42
      refine loop_rule (fun (x : Nat) => [(0, .slice a M.length c), (2, .bool false), (4, .slice a11 (List.length (wA M)) c11), (7, .slice a31 (List.length (pk (wA M))) c31), (8, .pointer (some ⟨b42, 0, none⟩)), (67, .slice a M.length c), (68, .int .i64 ((M.length : Nat) : Int)), (69, .int .i64 ((x : Nat) : Int))]) (fun (x : Nat) => [(b42, .cells #[.slice a42 (List.length (pk (wA M))) c42, .int .i64 ((QP M x : Nat) : Int), .int .i64 0] 99)]) (fun m (x : Nat) J => IM.Le I42 J ∧ x + m = M.length) (M.length) 0 s (by kernel_rfl) (List.Sublist.cons₂ _ List.Sublist.slnil) ⟨IM.Le.refl _, Nat.zero_add _⟩ ?_
      rintro m46 i46 I46 w46 ev46 s ⟨le46, hi46_0⟩
      try dsimp only at s hi46_0 ⊢
      replace hM4 := TSl.mono le46 hM4
      replace hle10 := leMono le46 hle10
      replace hi11_2 := BoS.mono le46 hi11_2
      replace h31_0 := BSl.mono le46 h31_0
      replace h38_0 := BSl.mono le46 h38_0
      replace hb42 := BSl.mono le46 hb42
      replace hle45 := leMono le46 hle45
      refine wp_seq ?_
      refine region_rule ?_
      refine ops_rule (C := []) [(b42, .cells #[.slice a42 (List.length (pk (wA M))) c42, .int .i64 ((QP M i46 : Nat) : Int), .int .i64 0] 99)] [] 1 [] 0 (fun φ47 => [(70, .bool (decide (((i46 : Nat) : Int) < ((M.length : Nat) : Int))))]) (fun φ47 => [(b42, .cells #[.slice a42 (List.length (pk (wA M))) c42, .int .i64 ((QP M i46 : Nat) : Int), .int .i64 0] 99)]) (fun φ47 => []) s trivial (fun φ47 => by kernel_rfl) ?_
      intro φ47 w47 s
      rw [nat_lss (a := i46) (b := M.length)]
      refine ops_done (by kernel_rfl) ?_
      refine wp_seq ?_
      rcases Bool.eq_false_or_eq_true (decide (i46 < M.length)) with hc48 | hc48
      ·
        rw [hc48]
        refine cond_true_rule (b := true) (by kernel_rfl) rfl ?_
        refine wp_skip ?_
        refine wp_seq ?_
        refine wp_block ?_
        refine wp_seq ?_
        refine region_rule ?_
        refine sem_rule (Instr.indexAt 22 (.slice a M.length c) (.int .i64 ((i46 : Nat) : Int))) (some 71) (.pointer (pAt a (i46 * 3))) (by kernel_rfl) (tsl_idx hM4 ((of_decide_eq_true hc48))) ?_
        refine sem_rule (Instr.loadAt 29 (.pointer (pAt a (i46 * 3)))) (some 72) (.agg #[.int .u8 (((M.getD i46 (0, 0, 0)).1 : Nat) : Int), .int .u64 (((M.getD i46 (0, 0, 0)).2.1 : Nat) : Int), .int .i64 ((M.getD i46 (0, 0, 0)).2.2)]) (by kernel_rfl) (tsl_ld s.sub hM4 ((of_decide_eq_true hc48))) ?_
        refine ops_rule (C := []) [(b42, .cells #[.slice a42 (List.length (pk (wA M))) c42, .int .i64 ((QP M i46 : Nat) : Int), .int .i64 0] 99)] [] 2 [.o 1, .o 1, .o 1] 1 (fun φ49 => [(10, .pointer (some ⟨(φ49 0), 0, none⟩))]) (fun φ49 => [(b42, .cells #[.slice a42 (List.length (pk (wA M))) c42, .int .i64 ((QP M i46 : Nat) : Int), .int .i64 0] 99), ((φ49 0), .cells #[.int .u8 (((M.getD i46 (0, 0, 0)).1 : Nat) : Int), .int .u64 (((M.getD i46 (0, 0, 0)).2.1 : Nat) : Int), .int .i64 ((M.getD i46 (0, 0, 0)).2.2)] 29)]) (fun φ49 => [(φ49 0), (φ49 0), (φ49 0)]) s trivial (fun φ49 => by kernel_rfl) ?_
        intro φ49 w49 s
        obtain ⟨I50, le50, hk50, s⟩ := s.freezeAt 1 (φ49 0) (.cells #[.int .u8 (((M.getD i46 (0, 0, 0)).1 : Nat) : Int), .int .u64 (((M.getD i46 (0, 0, 0)).2.1 : Nat) : Int), .int .i64 ((M.getD i46 (0, 0, 0)).2.2)] 29) [(b42, .cells #[.slice a42 (List.length (pk (wA M))) c42, .int .i64 ((QP M i46 : Nat) : Int), .int .i64 0] 99)] (by kernel_rfl) (by kernel_rfl)
        replace hM4 := TSl.mono le50 hM4
        replace hle10 := leMono le50 hle10
        replace hi11_2 := BoS.mono le50 hi11_2
        replace h31_0 := BSl.mono le50 h31_0
        replace h38_0 := BSl.mono le50 h38_0
        replace hb42 := BSl.mono le50 hb42
        replace hle45 := leMono le50 hle45
        refine ops_done (by kernel_rfl) ?_
        refine wp_seq ?_
        refine region_rule ?_
        refine ops_rule (C := [((φ49 0), .cells #[.int .u8 (((M.getD i46 (0, 0, 0)).1 : Nat) : Int), .int .u64 (((M.getD i46 (0, 0, 0)).2.1 : Nat) : Int), .int .i64 ((M.getD i46 (0, 0, 0)).2.2)] 29)]) [(b42, .cells #[.slice a42 (List.length (pk (wA M))) c42, .int .i64 ((QP M i46 : Nat) : Int), .int .i64 0] 99)] [] 5 [.c 0] 0 (fun φ51 => [(11, .int .i64 (if ((64 : Nat) : Int) < (if ((0 : Nat) : Int) > ((M.getD i46 (0, 0, 0)).2.2) then ((0 : Nat) : Int) else ((M.getD i46 (0, 0, 0)).2.2)) then ((64 : Nat) : Int) else (if ((0 : Nat) : Int) > ((M.getD i46 (0, 0, 0)).2.2) then ((0 : Nat) : Int) else ((M.getD i46 (0, 0, 0)).2.2)))), (76, .int .i64 (if ((64 : Nat) : Int) < (if ((0 : Nat) : Int) > ((M.getD i46 (0, 0, 0)).2.2) then ((0 : Nat) : Int) else ((M.getD i46 (0, 0, 0)).2.2)) then ((64 : Nat) : Int) else (if ((0 : Nat) : Int) > ((M.getD i46 (0, 0, 0)).2.2) then ((0 : Nat) : Int) else ((M.getD i46 (0, 0, 0)).2.2)))), (75, .int .i64 (if ((0 : Nat) : Int) > ((M.getD i46 (0, 0, 0)).2.2) then ((0 : Nat) : Int) else ((M.getD i46 (0, 0, 0)).2.2))), (74, .int .i64 ((M.getD i46 (0, 0, 0)).2.2)), (73, .pointer (some ⟨(φ49 0), 2, none⟩))]) (fun φ51 => [(b42, .cells #[.slice a42 (List.length (pk (wA M))) c42, .int .i64 ((QP M i46 : Nat) : Int), .int .i64 0] 99)]) (fun φ51 => [(φ49 0)]) s ⟨hk50, trivial⟩ (fun φ51 => by kernel_rfl) ?_
        intro φ51 w51 s
        rw [clamp_eq (z := (M.getD i46 (0, 0, 0)).2.2)]
        refine ops_done (by kernel_rfl) ?_
        refine wp_block ?_
        refine wp_seq ?_
        rcases Bool.eq_false_or_eq_true (decide ((((M.getD i46 (0, 0, 0)).1) % 2) = 1)) with hc52 | hc52
        ·
          have hH53 := IM.Le.refl I50
          refine held_begin (n := 12) (SubS I50) (by kernel_rfl) (by kernel_rfl) ?_
          replace s := St.drew s
          refine held_take (fuel := 11) [] [] 0 (.pointer (some ⟨(φ49 0), 0, none⟩)) (some 78) [] (I := I50) trivial (by kernel_rfl) (by kernel_rfl) (by kernel_rfl) (by kernel_rfl) (by kernel_rfl) (fun _ d' _ _ _ h => by cases d' <;> exact h) (by kernel_rfl) (by kernel_rfl) s.sub ?_
          refine held_take (fuel := 10) [((φ49 0), .cells #[.int .u8 (((M.getD i46 (0, 0, 0)).1 : Nat) : Int), .int .u64 (((M.getD i46 (0, 0, 0)).2.1 : Nat) : Int), .int .i64 ((M.getD i46 (0, 0, 0)).2.2)] 29)] [.c 0] 1 (.int .u8 (((M.getD i46 (0, 0, 0)).1 : Nat) : Int)) (some 79) [(φ49 0)] (I := I50) ⟨hk50, trivial⟩ (by kernel_rfl) (by kernel_rfl) (by kernel_rfl) (by kernel_rfl) (by kernel_rfl) (fun _ d' _ _ _ h => by cases d' <;> exact h) (by kernel_rfl) (by kernel_rfl) s.sub ?_
          refine held_one (fuel := 9) 2 (by kernel_rfl) (by kernel_rfl) ?_
          refine ops_rule (C := []) [(b42, .cells #[.slice a42 (List.length (pk (wA M))) c42, .int .i64 ((QP M i46 : Nat) : Int), .int .i64 0] 99)] [] 1 [] 0 (fun φ54 => [(80, .int .u8 (Int.tmod (((M.getD i46 (0, 0, 0)).1 : Nat) : Int) ((2 : Nat) : Int)))]) (fun φ54 => [(b42, .cells #[.slice a42 (List.length (pk (wA M))) c42, .int .i64 ((QP M i46 : Nat) : Int), .int .i64 0] 99)]) (fun φ54 => []) s trivial (fun φ54 => by kernel_rfl) ?_
          intro φ54 w54 s
          rw [nat_rem (a := ((M.getD i46 (0, 0, 0)).1)) (b := 2)]
          refine ops_done (by kernel_rfl) ?_
          refine held_next s hH53 ?_
          refine held_one (fuel := 8) 3 (by kernel_rfl) (by kernel_rfl) ?_
          refine ops_rule (C := []) [(b42, .cells #[.slice a42 (List.length (pk (wA M))) c42, .int .i64 ((QP M i46 : Nat) : Int), .int .i64 0] 99)] [] 1 [] 0 (fun φ55 => [(81, .bool (((((M.getD i46 (0, 0, 0)).1) % 2 : Nat) : Int) == ((1 : Nat) : Int)))]) (fun φ55 => [(b42, .cells #[.slice a42 (List.length (pk (wA M))) c42, .int .i64 ((QP M i46 : Nat) : Int), .int .i64 0] 99)]) (fun φ55 => []) s trivial (fun φ55 => by kernel_rfl) ?_
          intro φ55 w55 s
          rw [nat_eql (a := (((M.getD i46 (0, 0, 0)).1) % 2)) (b := 1)]
          rw [hc52]
          refine ops_done (by kernel_rfl) ?_
          refine held_next s hH53 ?_
          refine held_take (fuel := 7) [] [] 4 (.bool true) (some 82) [] (I := I50) trivial (by kernel_rfl) (by kernel_rfl) (by kernel_rfl) (by kernel_rfl) (by kernel_rfl) (fun _ d' _ _ _ h => by cases d' <;> exact h) (by kernel_rfl) (by kernel_rfl) s.sub ?_
          refine held_take (fuel := 6) [] [] 5 (.pointer (some ⟨b42, 0, none⟩)) (some 83) [] (I := I50) trivial (by kernel_rfl) (by kernel_rfl) (by kernel_rfl) (by kernel_rfl) (by kernel_rfl) (fun _ d' _ _ _ h => by cases d' <;> exact h) (by kernel_rfl) (by kernel_rfl) s.sub ?_
          refine held_take (fuel := 5) [] [] 7 (.pointer (some ⟨(φ49 0), 1, none⟩)) (some 85) [] (I := I50) trivial (by kernel_rfl) (by kernel_rfl) (by kernel_rfl) (by kernel_rfl) (by kernel_rfl) (fun _ d' _ _ _ h => by cases d' <;> exact h) (by kernel_rfl) (by kernel_rfl) s.sub ?_
          refine held_take (fuel := 4) [((φ49 0), .cells #[.int .u8 (((M.getD i46 (0, 0, 0)).1 : Nat) : Int), .int .u64 (((M.getD i46 (0, 0, 0)).2.1 : Nat) : Int), .int .i64 ((M.getD i46 (0, 0, 0)).2.2)] 29)] [.c 0] 8 (.int .u64 (((M.getD i46 (0, 0, 0)).2.1 : Nat) : Int)) (some 86) [(φ49 0)] (I := I50) ⟨hk50, trivial⟩ (by kernel_rfl) (by kernel_rfl) (by kernel_rfl) (by kernel_rfl) (by kernel_rfl) (fun _ d' _ _ _ h => by cases d' <;> exact h) (by kernel_rfl) (by kernel_rfl) s.sub ?_
          refine held_one (fuel := 3) 6 (by kernel_rfl) (by kernel_rfl) ?_
          refine callB_rule (b := (b42, .cells #[.slice a42 (List.length (pk (wA M))) c42, .int .i64 ((QP M i46 : Nat) : Int), .int .i64 0] 99)) (H := [(b42, .cells #[.slice a42 (List.length (pk (wA M))) c42, .int .i64 ((QP M i46 : Nat) : Int), .int .i64 0] 99)]) (F := []) (Hr := []) (some 84) 0 s (by kernel_rfl) (by kernel_rfl) (rgNum_c (r := b42) (i := i46) hb42 h25 (of_decide_eq_true hc48) (by have hv0 := of_decide_eq_true hc52; have hv1 := of_decide_eq_true hc52; omega) ((tsl_bd hM4 (of_decide_eq_true hc48)).2)) (by kernel_rfl) ?_
          rintro v56 I56 w56 b56 le56 - h56 s
          replace hM4 := TSl.mono le56 hM4
          replace hle10 := leMono le56 hle10
          replace hi11_2 := BoS.mono le56 hi11_2
          replace h31_0 := BSl.mono le56 h31_0
          replace h38_0 := BSl.mono le56 h38_0
          replace hb42 := BSl.mono le56 hb42
          replace hle45 := leMono le56 hle45
          replace hH53 := leMono le56 hH53
          replace hk50 := le56 _ _ hk50
          obtain ⟨rfl, rfl⟩ := h56
          refine ops_done (by kernel_rfl) ?_
          refine held_next s hH53 ?_
          refine held_one (fuel := 2) 9 (by kernel_rfl) (by kernel_rfl) ?_
          refine ops_rule (C := []) [(b42, .cells #[.slice a42 (List.length (pk (wA M))) c42, .int .i64 ((QP M (i46 + 1) : Nat) : Int), .int .i64 0] 99)] [] 1 [] 0 (fun φ57 => [(87, .bool ((((M.getD i46 (0, 0, 0)).2.1 : Nat) : Int) != (((M.getD i46 (0, 0, 0)).2.1 : Nat) : Int)))]) (fun φ57 => [(b42, .cells #[.slice a42 (List.length (pk (wA M))) c42, .int .i64 ((QP M (i46 + 1) : Nat) : Int), .int .i64 0] 99)]) (fun φ57 => []) s trivial (fun φ57 => by kernel_rfl) ?_
          intro φ57 w57 s
          rw [(nat_neq (a := ((M.getD i46 (0, 0, 0)).2.1)) (b := ((M.getD i46 (0, 0, 0)).2.1))).trans (decide_eq_false (fun q => q rfl))]
          refine ops_done (by kernel_rfl) ?_
          refine held_next s hH53 ?_
          refine held_one (fuel := 1) 10 (by kernel_rfl) (by kernel_rfl) ?_
          refine ops_rule (C := []) [(b42, .cells #[.slice a42 (List.length (pk (wA M))) c42, .int .i64 ((QP M (i46 + 1) : Nat) : Int), .int .i64 0] 99)] [] 1 [] 0 (fun φ58 => [(88, .bool false)]) (fun φ58 => [(b42, .cells #[.slice a42 (List.length (pk (wA M))) c42, .int .i64 ((QP M (i46 + 1) : Nat) : Int), .int .i64 0] 99)]) (fun φ58 => []) s trivial (fun φ58 => by kernel_rfl) ?_
          intro φ58 w58 s
          refine ops_done (by kernel_rfl) ?_
          refine held_next s hH53 ?_
          refine held_take (fuel := 0) [] [] 11 (.bool false) (some 77) [] (I := I50) trivial (by kernel_rfl) (by kernel_rfl) (by kernel_rfl) (by kernel_rfl) (by kernel_rfl) (fun _ d' _ _ _ h => by cases d' <;> exact h) (by kernel_rfl) (by kernel_rfl) (fun k o hk => s.sub k o (hH53 k o hk)) ?_
          refine Go.wpAnyH_done (by kernel_rfl) ?_ _
          refine cond_false_rule (b := false) (by kernel_rfl) rfl ?_
          refine wp_seq ?_
          rcases Bool.eq_false_or_eq_true (decide ((((M.getD i46 (0, 0, 0)).1) % 2) = 0)) with hc59 | hc59
          ·
            exact absurd (of_decide_eq_true hc59) (by have h7 := of_decide_eq_true hc52; omega)
          ·
            refine draw_rule (C := [((φ49 0), .cells #[.int .u8 (((M.getD i46 (0, 0, 0)).1 : Nat) : Int), .int .u64 (((M.getD i46 (0, 0, 0)).2.1 : Nat) : Int), .int .i64 ((M.getD i46 (0, 0, 0)).2.2)] 29)]) ⟨(fun φ60 xs60 => [.look 0 [] [], .look 0 [.c 0] [(φ49 0)], .sub 0 [] [] (.int .u8 (Int.tmod (((M.getD i46 (0, 0, 0)).1 : Nat) : Int) ((2 : Nat) : Int))), .sub 0 [] [] (.bool (((((M.getD i46 (0, 0, 0)).1) % 2 : Nat) : Int) == ((0 : Nat) : Int))), .look 0 [] [], .skip, .skip, .look 0 [] [], .look 0 [] [], .skip, .skip, .skip, .skip, .skip, .skip, .skip, .look 0 [] [], .look 0 [] []]), (fun φ60 xs60 => [.pointer (some ⟨(φ49 0), 0, none⟩), .int .u8 (((M.getD i46 (0, 0, 0)).1 : Nat) : Int), .int .u8 ((((M.getD i46 (0, 0, 0)).1) % 2 : Nat) : Int), .bool false, .bool false, undef, undef, .bool false, .bool false, undef, undef, undef, undef, undef, undef, undef, .bool false, .bool false]), (fun φ60 xs60 => [[(b42, .cells #[.slice a42 (List.length (pk (wA M))) c42, .int .i64 ((QP M (i46 + 1) : Nat) : Int), .int .i64 0] 99)]]), (fun φ60 xs60 => [[default, default, default, default, default, default, default, default, default, default, default, default, default, default, default, default, default, default]]), [], [1, 1, 5, 5, 1, 0, 0, 1, 1, 0, 0, 0, 0, 0, 0, 0, 1, 1]⟩ (fun j => ([MP.any, MP.any, MP.any, MP.any, MP.any, MP.any, MP.any, MP.any, MP.any, MP.any, MP.any, MP.any, MP.any, MP.any, MP.any, MP.any, MP.any, MP.any] : List MP).getD j MP.any) [] [2, 3] [] (fun φ60 xs60 => []) (fun φ60 xs60 => [(90, .pointer (some ⟨(φ49 0), 0, none⟩)), (91, .int .u8 (((M.getD i46 (0, 0, 0)).1 : Nat) : Int)), (92, .int .u8 ((((M.getD i46 (0, 0, 0)).1) % 2 : Nat) : Int)), (93, .bool false), (94, .bool false), (95, undef), (96, undef), (97, .bool false), (98, .bool false), (99, undef), (100, undef), (101, undef), (102, undef), (103, undef), (104, undef), (105, undef), (106, .bool false), (89, .bool false)]) (fun φ60 xs60 => [(b42, .cells #[.slice a42 (List.length (pk (wA M))) c42, .int .i64 ((QP M (i46 + 1) : Nat) : Int), .int .i64 0] 99)]) s ⟨hk50, trivial⟩ (by kernel_rfl) (by kernel_rfl) (fun _ _ => by kernel_rfl) (fun _ _ => by kernel_rfl) ⟨fun _ _ => by kernel_rfl, fun _ _ => by kernel_rfl, fun _ _ => by kernel_rfl, fun _ _ => by kernel_rfl⟩ (fun _ _ _ => by kernel_rfl) (fun _ _ => by kernel_rfl) (fun _ _ => by kernel_rfl) (fun _ _ => by kernel_rfl) (fun _ _ => by kernel_rfl) (fun _ _ => by kernel_rfl) ⟨kcast (A := ∀ (φ60 : Nat → Nat) (xs60 : Xs), (.int .u8 (Int.tmod (((M.getD i46 (0, 0, 0)).1 : Nat) : Int) ((2 : Nat) : Int)) : Value) = .int .u8 ((((M.getD i46 (0, 0, 0)).1) % 2 : Nat) : Int)) (by kernel_rfl) (fun φ60 xs60 => congrArg (Value.int .u8) ((nat_rem (a := ((M.getD i46 (0, 0, 0)).1)) (b := 2)))), ⟨kcast (A := ∀ (φ60 : Nat → Nat) (xs60 : Xs), (.bool (((((M.getD i46 (0, 0, 0)).1) % 2 : Nat) : Int) == ((0 : Nat) : Int)) : Value) = .bool false) (by kernel_rfl) (fun φ60 xs60 => congrArg Value.bool ((nat_eql (a := (((M.getD i46 (0, 0, 0)).1) % 2)) (b := 0)).trans (hc59))), trivial⟩⟩ trivial (by kernel_rfl) trivial ?k60
            case k60 =>
              rintro φ60 xs60 I60 w60 le60 s 
              replace hM4 := TSl.mono le60 hM4
              replace hle10 := leMono le60 hle10
              replace hi11_2 := BoS.mono le60 hi11_2
              replace h31_0 := BSl.mono le60 h31_0
              replace h38_0 := BSl.mono le60 h38_0
              replace hb42 := BSl.mono le60 hb42
              replace hle45 := leMono le60 hle45
              replace hH53 := leMono le60 hH53
              replace hk50 := le60 _ _ hk50
              refine cond_false_rule (b := false) (by kernel_rfl) rfl ?_
              refine wp_seq ?_
              refine draw_rule (C := [((φ49 0), .cells #[.int .u8 (((M.getD i46 (0, 0, 0)).1 : Nat) : Int), .int .u64 (((M.getD i46 (0, 0, 0)).2.1 : Nat) : Int), .int .i64 ((M.getD i46 (0, 0, 0)).2.2)] 29)]) ⟨(fun φ61 xs61 => [.look 0 [] [], .look 0 [.c 0] [(φ49 0)], .sub 0 [] [] (.int .u8 (Int.tmod (((M.getD i46 (0, 0, 0)).1 : Nat) : Int) ((2 : Nat) : Int))), .sub 0 [] [] (.bool (((((M.getD i46 (0, 0, 0)).1) % 2 : Nat) : Int) == ((0 : Nat) : Int))), .look 0 [] [], .skip, .skip, .look 0 [] [], .look 0 [] [], .skip, .skip, .skip, .skip, .skip, .skip, .skip, .skip, .skip, .skip, .look 0 [] [], .look 0 [] []]), (fun φ61 xs61 => [.pointer (some ⟨(φ49 0), 0, none⟩), .int .u8 (((M.getD i46 (0, 0, 0)).1 : Nat) : Int), .int .u8 ((((M.getD i46 (0, 0, 0)).1) % 2 : Nat) : Int), .bool false, .bool false, undef, undef, .bool false, .bool false, undef, undef, undef, undef, undef, undef, undef, undef, undef, undef, .bool false, .bool false]), (fun φ61 xs61 => [[(b42, .cells #[.slice a42 (List.length (pk (wA M))) c42, .int .i64 ((QP M (i46 + 1) : Nat) : Int), .int .i64 0] 99)]]), (fun φ61 xs61 => [[default, default, default, default, default, default, default, default, default, default, default, default, default, default, default, default, default, default, default, default, default]]), [], [1, 1, 5, 5, 1, 0, 0, 1, 1, 0, 0, 0, 0, 0, 0, 0, 0, 0, 0, 1, 1]⟩ (fun j => ([MP.any, MP.any, MP.any, MP.any, MP.any, MP.any, MP.any, MP.any, MP.any, MP.any, MP.any, MP.any, MP.any, MP.any, MP.any, MP.any, MP.any, MP.any, MP.any, MP.any, MP.any] : List MP).getD j MP.any) [] [2, 3] [] (fun φ61 xs61 => []) (fun φ61 xs61 => [(108, .pointer (some ⟨(φ49 0), 0, none⟩)), (109, .int .u8 (((M.getD i46 (0, 0, 0)).1 : Nat) : Int)), (110, .int .u8 ((((M.getD i46 (0, 0, 0)).1) % 2 : Nat) : Int)), (111, .bool false), (112, .bool false), (113, undef), (114, undef), (115, .bool false), (116, .bool false), (117, undef), (118, undef), (119, undef), (120, undef), (121, undef), (122, undef), (123, undef), (124, undef), (125, undef), (126, undef), (127, .bool false), (107, .bool false)]) (fun φ61 xs61 => [(b42, .cells #[.slice a42 (List.length (pk (wA M))) c42, .int .i64 ((QP M (i46 + 1) : Nat) : Int), .int .i64 0] 99)]) s ⟨hk50, trivial⟩ (by kernel_rfl) (by kernel_rfl) (fun _ _ => by kernel_rfl) (fun _ _ => by kernel_rfl) ⟨fun _ _ => by kernel_rfl, fun _ _ => by kernel_rfl, fun _ _ => by kernel_rfl, fun _ _ => by kernel_rfl⟩ (fun _ _ _ => by kernel_rfl) (fun _ _ => by kernel_rfl) (fun _ _ => by kernel_rfl) (fun _ _ => by kernel_rfl) (fun _ _ => by kernel_rfl) (fun _ _ => by kernel_rfl) ⟨kcast (A := ∀ (φ61 : Nat → Nat) (xs61 : Xs), (.int .u8 (Int.tmod (((M.getD i46 (0, 0, 0)).1 : Nat) : Int) ((2 : Nat) : Int)) : Value) = .int .u8 ((((M.getD i46 (0, 0, 0)).1) % 2 : Nat) : Int)) (by kernel_rfl) (fun φ61 xs61 => congrArg (Value.int .u8) ((nat_rem (a := ((M.getD i46 (0, 0, 0)).1)) (b := 2)))), ⟨kcast (A := ∀ (φ61 : Nat → Nat) (xs61 : Xs), (.bool (((((M.getD i46 (0, 0, 0)).1) % 2 : Nat) : Int) == ((0 : Nat) : Int)) : Value) = .bool false) (by kernel_rfl) (fun φ61 xs61 => congrArg Value.bool ((nat_eql (a := (((M.getD i46 (0, 0, 0)).1) % 2)) (b := 0)).trans (hc59))), trivial⟩⟩ trivial (by kernel_rfl) trivial ?k61
              case k61 =>
                rintro φ61 xs61 I61 w61 le61 s 
                replace hM4 := TSl.mono le61 hM4
                replace hle10 := leMono le61 hle10
                replace hi11_2 := BoS.mono le61 hi11_2
                replace h31_0 := BSl.mono le61 h31_0
                replace h38_0 := BSl.mono le61 h38_0
                replace hb42 := BSl.mono le61 hb42
                replace hle45 := leMono le61 hle45
                replace hH53 := leMono le61 hH53
                replace hk50 := le61 _ _ hk50
                refine cond_false_rule (b := false) (by kernel_rfl) rfl ?_
                refine wp_skip ?_
                refine region_rule ?_
                refine ops_rule (C := []) [(b42, .cells #[.slice a42 (List.length (pk (wA M))) c42, .int .i64 ((QP M (i46 + 1) : Nat) : Int), .int .i64 0] 99)] [] 2 [] 0 (fun φ62 => [(69, .int .i64 (IntKind.wrap .i64 (((i46 : Nat) : Int) + ((1 : Nat) : Int)))), (128, .int .i64 (IntKind.wrap .i64 (((i46 : Nat) : Int) + ((1 : Nat) : Int))))]) (fun φ62 => [(b42, .cells #[.slice a42 (List.length (pk (wA M))) c42, .int .i64 ((QP M (i46 + 1) : Nat) : Int), .int .i64 0] 99)]) (fun φ62 => []) s trivial (fun φ62 => by kernel_rfl) ?_
                intro φ62 w62 s
                rw [nat_addI (a := i46) (b := 1) (by have hz1 := wA_len M; have hz2 := pk_len (wA M); have hz3 := tsl_bd hM4 (of_decide_eq_true hc48); have hq0 := of_decide_eq_false hc13; have hq1 := of_decide_eq_false hc36; have hq2 := of_decide_eq_true hc48; have hq3 := of_decide_eq_true hc52; have hq4 := of_decide_eq_true hc52; have hq5 := of_decide_eq_false hc59; omega)]
                refine ops_done (by kernel_rfl) ?_
                have hq9 := (of_decide_eq_true hc48)
                exact ⟨⟨m46 - 1, i46 + 1, _, _, _, by omega, rfl, s, (List.Sublist.cons₂ _ List.Sublist.slnil), by kernel_rfl, hle45, by show i46 + 1 + (m46 - 1) = M.length; omega⟩⟩
        ·
          refine draw_rule (C := [((φ49 0), .cells #[.int .u8 (((M.getD i46 (0, 0, 0)).1 : Nat) : Int), .int .u64 (((M.getD i46 (0, 0, 0)).2.1 : Nat) : Int), .int .i64 ((M.getD i46 (0, 0, 0)).2.2)] 29)]) ⟨(fun φ63 xs63 => [.look 0 [] [], .look 0 [.c 0] [(φ49 0)], .sub 0 [] [] (.int .u8 (Int.tmod (((M.getD i46 (0, 0, 0)).1 : Nat) : Int) ((2 : Nat) : Int))), .sub 0 [] [] (.bool (((((M.getD i46 (0, 0, 0)).1) % 2 : Nat) : Int) == ((1 : Nat) : Int))), .look 0 [] [], .skip, .skip, .skip, .skip, .skip, .look 0 [] [], .look 0 [] []]), (fun φ63 xs63 => [.pointer (some ⟨(φ49 0), 0, none⟩), .int .u8 (((M.getD i46 (0, 0, 0)).1 : Nat) : Int), .int .u8 ((((M.getD i46 (0, 0, 0)).1) % 2 : Nat) : Int), .bool false, .bool false, undef, undef, undef, undef, undef, .bool false, .bool false]), (fun φ63 xs63 => [[(b42, .cells #[.slice a42 (List.length (pk (wA M))) c42, .int .i64 ((QP M i46 : Nat) : Int), .int .i64 0] 99)]]), (fun φ63 xs63 => [[default, default, default, default, default, default, default, default, default, default, default, default]]), [], [1, 1, 5, 5, 1, 0, 0, 0, 0, 0, 1, 1]⟩ (fun j => ([MP.any, MP.any, MP.any, MP.any, MP.any, MP.any, MP.any, MP.any, MP.any, MP.any, MP.any, MP.any] : List MP).getD j MP.any) [] [2, 3] [] (fun φ63 xs63 => []) (fun φ63 xs63 => [(78, .pointer (some ⟨(φ49 0), 0, none⟩)), (79, .int .u8 (((M.getD i46 (0, 0, 0)).1 : Nat) : Int)), (80, .int .u8 ((((M.getD i46 (0, 0, 0)).1) % 2 : Nat) : Int)), (81, .bool false), (82, .bool false), (83, undef), (84, undef), (85, undef), (86, undef), (87, undef), (88, .bool false), (77, .bool false)]) (fun φ63 xs63 => [(b42, .cells #[.slice a42 (List.length (pk (wA M))) c42, .int .i64 ((QP M i46 : Nat) : Int), .int .i64 0] 99)]) s ⟨hk50, trivial⟩ (by kernel_rfl) (by kernel_rfl) (fun _ _ => by kernel_rfl) (fun _ _ => by kernel_rfl) ⟨fun _ _ => by kernel_rfl, fun _ _ => by kernel_rfl, fun _ _ => by kernel_rfl, fun _ _ => by kernel_rfl⟩ (fun _ _ _ => by kernel_rfl) (fun _ _ => by kernel_rfl) (fun _ _ => by kernel_rfl) (fun _ _ => by kernel_rfl) (fun _ _ => by kernel_rfl) (fun _ _ => by kernel_rfl) ⟨kcast (A := ∀ (φ63 : Nat → Nat) (xs63 : Xs), (.int .u8 (Int.tmod (((M.getD i46 (0, 0, 0)).1 : Nat) : Int) ((2 : Nat) : Int)) : Value) = .int .u8 ((((M.getD i46 (0, 0, 0)).1) % 2 : Nat) : Int)) (by kernel_rfl) (fun φ63 xs63 => congrArg (Value.int .u8) ((nat_rem (a := ((M.getD i46 (0, 0, 0)).1)) (b := 2)))), ⟨kcast (A := ∀ (φ63 : Nat → Nat) (xs63 : Xs), (.bool (((((M.getD i46 (0, 0, 0)).1) % 2 : Nat) : Int) == ((1 : Nat) : Int)) : Value) = .bool false) (by kernel_rfl) (fun φ63 xs63 => congrArg Value.bool ((nat_eql (a := (((M.getD i46 (0, 0, 0)).1) % 2)) (b := 1)).trans (hc52))), trivial⟩⟩ trivial (by kernel_rfl) trivial ?k63
          case k63 =>
            rintro φ63 xs63 I63 w63 le63 s 
            replace hM4 := TSl.mono le63 hM4
            replace hle10 := leMono le63 hle10
            replace hi11_2 := BoS.mono le63 hi11_2
            replace h31_0 := BSl.mono le63 h31_0
            replace h38_0 := BSl.mono le63 h38_0
            replace hb42 := BSl.mono le63 hb42
            replace hle45 := leMono le63 hle45
            replace hk50 := le63 _ _ hk50
            refine cond_false_rule (b := false) (by kernel_rfl) rfl ?_
            refine wp_seq ?_
            rcases Bool.eq_false_or_eq_true (decide ((((M.getD i46 (0, 0, 0)).1) % 2) = 0)) with hc64 | hc64
            ·
              rcases Bool.eq_false_or_eq_true (decide ((clampN (M.getD i46 (0, 0, 0)).2.2) = 64)) with hc65 | hc65
              ·
                have hH66 := IM.Le.refl I63
                refine held_begin (n := 18) (SubS I63) (by kernel_rfl) (by kernel_rfl) ?_
                replace s := St.drew s
                refine held_take (fuel := 17) [] [] 0 (.pointer (some ⟨(φ49 0), 0, none⟩)) (some 90) [] (I := I63) trivial (by kernel_rfl) (by kernel_rfl) (by kernel_rfl) (by kernel_rfl) (by kernel_rfl) (fun _ d' _ _ _ h => by cases d' <;> exact h) (by kernel_rfl) (by kernel_rfl) s.sub ?_
                refine held_take (fuel := 16) [((φ49 0), .cells #[.int .u8 (((M.getD i46 (0, 0, 0)).1 : Nat) : Int), .int .u64 (((M.getD i46 (0, 0, 0)).2.1 : Nat) : Int), .int .i64 ((M.getD i46 (0, 0, 0)).2.2)] 29)] [.c 0] 1 (.int .u8 (((M.getD i46 (0, 0, 0)).1 : Nat) : Int)) (some 91) [(φ49 0)] (I := I63) ⟨hk50, trivial⟩ (by kernel_rfl) (by kernel_rfl) (by kernel_rfl) (by kernel_rfl) (by kernel_rfl) (fun _ d' _ _ _ h => by cases d' <;> exact h) (by kernel_rfl) (by kernel_rfl) s.sub ?_
                refine held_one (fuel := 15) 2 (by kernel_rfl) (by kernel_rfl) ?_
                refine ops_rule (C := []) [(b42, .cells #[.slice a42 (List.length (pk (wA M))) c42, .int .i64 ((QP M i46 : Nat) : Int), .int .i64 0] 99)] [] 1 [] 0 (fun φ67 => [(92, .int .u8 (Int.tmod (((M.getD i46 (0, 0, 0)).1 : Nat) : Int) ((2 : Nat) : Int)))]) (fun φ67 => [(b42, .cells #[.slice a42 (List.length (pk (wA M))) c42, .int .i64 ((QP M i46 : Nat) : Int), .int .i64 0] 99)]) (fun φ67 => []) s trivial (fun φ67 => by kernel_rfl) ?_
                intro φ67 w67 s
                rw [nat_rem (a := ((M.getD i46 (0, 0, 0)).1)) (b := 2)]
                refine ops_done (by kernel_rfl) ?_
                refine held_next s hH66 ?_
                refine held_one (fuel := 14) 3 (by kernel_rfl) (by kernel_rfl) ?_
                refine ops_rule (C := []) [(b42, .cells #[.slice a42 (List.length (pk (wA M))) c42, .int .i64 ((QP M i46 : Nat) : Int), .int .i64 0] 99)] [] 1 [] 0 (fun φ68 => [(93, .bool (((((M.getD i46 (0, 0, 0)).1) % 2 : Nat) : Int) == ((0 : Nat) : Int)))]) (fun φ68 => [(b42, .cells #[.slice a42 (List.length (pk (wA M))) c42, .int .i64 ((QP M i46 : Nat) : Int), .int .i64 0] 99)]) (fun φ68 => []) s trivial (fun φ68 => by kernel_rfl) ?_
                intro φ68 w68 s
                rw [nat_eql (a := (((M.getD i46 (0, 0, 0)).1) % 2)) (b := 0)]
                rw [hc64]
                refine ops_done (by kernel_rfl) ?_
                refine held_next s hH66 ?_
                refine held_take (fuel := 13) [] [] 4 (.bool true) (some 94) [] (I := I63) trivial (by kernel_rfl) (by kernel_rfl) (by kernel_rfl) (by kernel_rfl) (by kernel_rfl) (fun _ d' _ _ _ h => by cases d' <;> exact h) (by kernel_rfl) (by kernel_rfl) s.sub ?_
                refine held_take (fuel := 12) [] [] 5 (.int .i64 ((clampN (M.getD i46 (0, 0, 0)).2.2 : Nat) : Int)) (some 95) [] (I := I63) trivial (by kernel_rfl) (by kernel_rfl) (by kernel_rfl) (by kernel_rfl) (by kernel_rfl) (fun _ d' _ _ _ h => by cases d' <;> exact h) (by kernel_rfl) (by kernel_rfl) s.sub ?_
                refine held_one (fuel := 11) 6 (by kernel_rfl) (by kernel_rfl) ?_
                refine ops_rule (C := []) [(b42, .cells #[.slice a42 (List.length (pk (wA M))) c42, .int .i64 ((QP M i46 : Nat) : Int), .int .i64 0] 99)] [] 1 [] 0 (fun φ69 => [(96, .bool (((clampN (M.getD i46 (0, 0, 0)).2.2 : Nat) : Int) == ((64 : Nat) : Int)))]) (fun φ69 => [(b42, .cells #[.slice a42 (List.length (pk (wA M))) c42, .int .i64 ((QP M i46 : Nat) : Int), .int .i64 0] 99)]) (fun φ69 => []) s trivial (fun φ69 => by kernel_rfl) ?_
                intro φ69 w69 s
                rw [nat_eql (a := (clampN (M.getD i46 (0, 0, 0)).2.2)) (b := 64)]
                rw [hc65]
                refine ops_done (by kernel_rfl) ?_
                refine held_next s hH66 ?_
                refine held_one (fuel := 10) 7 (by kernel_rfl) (by kernel_rfl) ?_
                refine ops_rule (C := []) [(b42, .cells #[.slice a42 (List.length (pk (wA M))) c42, .int .i64 ((QP M i46 : Nat) : Int), .int .i64 0] 99)] [] 1 [] 0 (fun φ70 => [(97, .bool true)]) (fun φ70 => [(b42, .cells #[.slice a42 (List.length (pk (wA M))) c42, .int .i64 ((QP M i46 : Nat) : Int), .int .i64 0] 99)]) (fun φ70 => []) s trivial (fun φ70 => by kernel_rfl) ?_
                intro φ70 w70 s
                refine ops_done (by kernel_rfl) ?_
                refine held_next s hH66 ?_
                refine held_take (fuel := 9) [] [] 8 (.bool true) (some 98) [] (I := I63) trivial (by kernel_rfl) (by kernel_rfl) (by kernel_rfl) (by kernel_rfl) (by kernel_rfl) (fun _ d' _ _ _ h => by cases d' <;> exact h) (by kernel_rfl) (by kernel_rfl) s.sub ?_
                refine held_take (fuel := 8) [] [] 9 (.pointer (some ⟨b42, 0, none⟩)) (some 99) [] (I := I63) trivial (by kernel_rfl) (by kernel_rfl) (by kernel_rfl) (by kernel_rfl) (by kernel_rfl) (fun _ d' _ _ _ h => by cases d' <;> exact h) (by kernel_rfl) (by kernel_rfl) s.sub ?_
                refine held_take (fuel := 7) [] [] 10 (.pointer (some ⟨(φ49 0), 2, none⟩)) (some 100) [] (I := I63) trivial (by kernel_rfl) (by kernel_rfl) (by kernel_rfl) (by kernel_rfl) (by kernel_rfl) (fun _ d' _ _ _ h => by cases d' <;> exact h) (by kernel_rfl) (by kernel_rfl) s.sub ?_
                refine held_take (fuel := 6) [((φ49 0), .cells #[.int .u8 (((M.getD i46 (0, 0, 0)).1 : Nat) : Int), .int .u64 (((M.getD i46 (0, 0, 0)).2.1 : Nat) : Int), .int .i64 ((M.getD i46 (0, 0, 0)).2.2)] 29)] [.c 0] 11 (.int .i64 ((M.getD i46 (0, 0, 0)).2.2)) (some 101) [(φ49 0)] (I := I63) ⟨hk50, trivial⟩ (by kernel_rfl) (by kernel_rfl) (by kernel_rfl) (by kernel_rfl) (by kernel_rfl) (fun _ d' _ _ _ h => by cases d' <;> exact h) (by kernel_rfl) (by kernel_rfl) s.sub ?_
                refine held_take (fuel := 5) [] [] 13 (.pointer (some ⟨(φ49 0), 1, none⟩)) (some 103) [] (I := I63) trivial (by kernel_rfl) (by kernel_rfl) (by kernel_rfl) (by kernel_rfl) (by kernel_rfl) (fun _ d' _ _ _ h => by cases d' <;> exact h) (by kernel_rfl) (by kernel_rfl) s.sub ?_
                refine held_take (fuel := 4) [((φ49 0), .cells #[.int .u8 (((M.getD i46 (0, 0, 0)).1 : Nat) : Int), .int .u64 (((M.getD i46 (0, 0, 0)).2.1 : Nat) : Int), .int .i64 ((M.getD i46 (0, 0, 0)).2.2)] 29)] [.c 0] 14 (.int .u64 (((M.getD i46 (0, 0, 0)).2.1 : Nat) : Int)) (some 104) [(φ49 0)] (I := I63) ⟨hk50, trivial⟩ (by kernel_rfl) (by kernel_rfl) (by kernel_rfl) (by kernel_rfl) (by kernel_rfl) (fun _ d' _ _ _ h => by cases d' <;> exact h) (by kernel_rfl) (by kernel_rfl) s.sub ?_
                refine held_one (fuel := 3) 12 (by kernel_rfl) (by kernel_rfl) ?_
                refine callB_rule (b := (b42, .cells #[.slice a42 (List.length (pk (wA M))) c42, .int .i64 ((QP M i46 : Nat) : Int), .int .i64 0] 99)) (H := [(b42, .cells #[.slice a42 (List.length (pk (wA M))) c42, .int .i64 ((QP M i46 : Nat) : Int), .int .i64 0] 99)]) (F := []) (Hr := []) (some 102) 0 s (by kernel_rfl) (by kernel_rfl) (rgGet_c (r := b42) (i := i46) hb42 h25 (of_decide_eq_true hc48) (by have hv0 := of_decide_eq_false hc52; have hv1 := of_decide_eq_true hc64; have hv2 := of_decide_eq_true hc64; omega)) (by kernel_rfl) ?_
                rintro v71 I71 w71 b71 le71 - h71 s
                replace hM4 := TSl.mono le71 hM4
                replace hle10 := leMono le71 hle10
                replace hi11_2 := BoS.mono le71 hi11_2
                replace h31_0 := BSl.mono le71 h31_0
                replace h38_0 := BSl.mono le71 h38_0
                replace hb42 := BSl.mono le71 hb42
                replace hle45 := leMono le71 hle45
                replace hH66 := leMono le71 hH66
                replace hk50 := le71 _ _ hk50
                obtain ⟨rfl, rfl⟩ := h71
                refine ops_done (by kernel_rfl) ?_
                refine held_next s hH66 ?_
                refine held_one (fuel := 2) 15 (by kernel_rfl) (by kernel_rfl) ?_
                refine ops_rule (C := []) [(b42, .cells #[.slice a42 (List.length (pk (wA M))) c42, .int .i64 ((QP M (i46 + 1) : Nat) : Int), .int .i64 0] 99)] [] 1 [] 0 (fun φ72 => [(105, .bool (((((M.getD i46 (0, 0, 0)).2.1) % (2 ^ (clampN (M.getD i46 (0, 0, 0)).2.2)) : Nat) : Int) != (((M.getD i46 (0, 0, 0)).2.1 : Nat) : Int)))]) (fun φ72 => [(b42, .cells #[.slice a42 (List.length (pk (wA M))) c42, .int .i64 ((QP M (i46 + 1) : Nat) : Int), .int .i64 0] 99)]) (fun φ72 => []) s trivial (fun φ72 => by kernel_rfl) ?_
                intro φ72 w72 s
                rw [nat_neq (a := (((M.getD i46 (0, 0, 0)).2.1) % (2 ^ (clampN (M.getD i46 (0, 0, 0)).2.2)))) (b := ((M.getD i46 (0, 0, 0)).2.1))]
                refine ops_done (by kernel_rfl) ?_
                refine held_next s hH66 ?_
                refine held_one (fuel := 1) 16 (by kernel_rfl) (by kernel_rfl) ?_
                refine ops_rule (C := []) [(b42, .cells #[.slice a42 (List.length (pk (wA M))) c42, .int .i64 ((QP M (i46 + 1) : Nat) : Int), .int .i64 0] 99)] [] 1 [] 0 (fun φ73 => [(106, .bool (decide ((((M.getD i46 (0, 0, 0)).2.1) % (2 ^ (clampN (M.getD i46 (0, 0, 0)).2.2))) ≠ ((M.getD i46 (0, 0, 0)).2.1))))]) (fun φ73 => [(b42, .cells #[.slice a42 (List.length (pk (wA M))) c42, .int .i64 ((QP M (i46 + 1) : Nat) : Int), .int .i64 0] 99)]) (fun φ73 => []) s trivial (fun φ73 => by kernel_rfl) ?_
                intro φ73 w73 s
                refine ops_done (by kernel_rfl) ?_
                refine held_next s hH66 ?_
                refine held_take (fuel := 0) [] [] 17 (.bool (decide ((((M.getD i46 (0, 0, 0)).2.1) % (2 ^ (clampN (M.getD i46 (0, 0, 0)).2.2))) ≠ ((M.getD i46 (0, 0, 0)).2.1)))) (some 89) [] (I := I63) trivial (by kernel_rfl) (by kernel_rfl) (by kernel_rfl) (by kernel_rfl) (by kernel_rfl) (fun _ d' _ _ _ h => by cases d' <;> exact h) (by kernel_rfl) (by kernel_rfl) (fun k o hk => s.sub k o (hH66 k o hk)) ?_
                refine Go.wpAnyH_done (by kernel_rfl) ?_ _
                rcases Bool.eq_false_or_eq_true (decide ((((M.getD i46 (0, 0, 0)).2.1) % (2 ^ (clampN (M.getD i46 (0, 0, 0)).2.2))) ≠ ((M.getD i46 (0, 0, 0)).2.1))) with hc74 | hc74
                ·
                  exact absurd (of_decide_eq_true hc74) (by have h6 := (tsl_bd hM4 (of_decide_eq_true hc48)).2; have h7 := of_decide_eq_true hc65; rw [h7]; intro q; exact q (Nat.mod_eq_of_lt h6))
                ·
                  rw [hc74]
                  refine cond_false_rule (b := false) (by kernel_rfl) rfl ?_
                  refine wp_seq ?_
                  rcases Bool.eq_false_or_eq_true (decide ((clampN (M.getD i46 (0, 0, 0)).2.2) < 64)) with hc75 | hc75
                  ·
                    exact absurd (of_decide_eq_true hc75) (by have h7 := of_decide_eq_true hc65; omega)
                  ·
                    refine draw_rule (C := [((φ49 0), .cells #[.int .u8 (((M.getD i46 (0, 0, 0)).1 : Nat) : Int), .int .u64 (((M.getD i46 (0, 0, 0)).2.1 : Nat) : Int), .int .i64 ((M.getD i46 (0, 0, 0)).2.2)] 29)]) ⟨(fun φ76 xs76 => [.look 0 [] [], .look 0 [.c 0] [(φ49 0)], .sub 0 [] [] (.int .u8 (Int.tmod (((M.getD i46 (0, 0, 0)).1 : Nat) : Int) ((2 : Nat) : Int))), .sub 0 [] [] (.bool (((((M.getD i46 (0, 0, 0)).1) % 2 : Nat) : Int) == ((0 : Nat) : Int))), .look 0 [] [], .look 0 [] [], .sub 0 [] [] (.bool (decide (((clampN (M.getD i46 (0, 0, 0)).2.2 : Nat) : Int) < ((64 : Nat) : Int)))), .look 0 [] [], .look 0 [] [], .skip, .skip, .skip, .skip, .skip, .skip, .skip, .skip, .skip, .skip, .look 0 [] [], .look 0 [] []]), (fun φ76 xs76 => [.pointer (some ⟨(φ49 0), 0, none⟩), .int .u8 (((M.getD i46 (0, 0, 0)).1 : Nat) : Int), .int .u8 ((((M.getD i46 (0, 0, 0)).1) % 2 : Nat) : Int), .bool true, .bool true, .int .i64 ((clampN (M.getD i46 (0, 0, 0)).2.2 : Nat) : Int), .bool false, .bool false, .bool false, undef, undef, undef, undef, undef, undef, undef, undef, undef, undef, .bool false, .bool false]), (fun φ76 xs76 => [[(b42, .cells #[.slice a42 (List.length (pk (wA M))) c42, .int .i64 ((QP M (i46 + 1) : Nat) : Int), .int .i64 0] 99)]]), (fun φ76 xs76 => [[default, default, default, default, default, default, default, default, default, default, default, default, default, default, default, default, default, default, default, default, default]]), [], [1, 1, 5, 5, 1, 1, 5, 1, 1, 0, 0, 0, 0, 0, 0, 0, 0, 0, 0, 1, 1]⟩ (fun j => ([MP.any, MP.any, MP.any, MP.any, MP.any, MP.any, MP.any, MP.any, MP.any, MP.any, MP.any, MP.any, MP.any, MP.any, MP.any, MP.any, MP.any, MP.any, MP.any, MP.any, MP.any] : List MP).getD j MP.any) [] [2, 3, 6] [] (fun φ76 xs76 => []) (fun φ76 xs76 => [(108, .pointer (some ⟨(φ49 0), 0, none⟩)), (109, .int .u8 (((M.getD i46 (0, 0, 0)).1 : Nat) : Int)), (110, .int .u8 ((((M.getD i46 (0, 0, 0)).1) % 2 : Nat) : Int)), (111, .bool true), (112, .bool true), (113, .int .i64 ((clampN (M.getD i46 (0, 0, 0)).2.2 : Nat) : Int)), (114, .bool false), (115, .bool false), (116, .bool false), (117, undef), (118, undef), (119, undef), (120, undef), (121, undef), (122, undef), (123, undef), (124, undef), (125, undef), (126, undef), (127, .bool false), (107, .bool false)]) (fun φ76 xs76 => [(b42, .cells #[.slice a42 (List.length (pk (wA M))) c42, .int .i64 ((QP M (i46 + 1) : Nat) : Int), .int .i64 0] 99)]) s ⟨hk50, trivial⟩ (by kernel_rfl) (by kernel_rfl) (fun _ _ => by kernel_rfl) (fun _ _ => by kernel_rfl) ⟨fun _ _ => by kernel_rfl, fun _ _ => by kernel_rfl, fun _ _ => by kernel_rfl, fun _ _ => by kernel_rfl⟩ (fun _ _ _ => by kernel_rfl) (fun _ _ => by kernel_rfl) (fun _ _ => by kernel_rfl) (fun _ _ => by kernel_rfl) (fun _ _ => by kernel_rfl) (fun _ _ => by kernel_rfl) ⟨kcast (A := ∀ (φ76 : Nat → Nat) (xs76 : Xs), (.int .u8 (Int.tmod (((M.getD i46 (0, 0, 0)).1 : Nat) : Int) ((2 : Nat) : Int)) : Value) = .int .u8 ((((M.getD i46 (0, 0, 0)).1) % 2 : Nat) : Int)) (by kernel_rfl) (fun φ76 xs76 => congrArg (Value.int .u8) ((nat_rem (a := ((M.getD i46 (0, 0, 0)).1)) (b := 2)))), ⟨kcast (A := ∀ (φ76 : Nat → Nat) (xs76 : Xs), (.bool (((((M.getD i46 (0, 0, 0)).1) % 2 : Nat) : Int) == ((0 : Nat) : Int)) : Value) = .bool true) (by kernel_rfl) (fun φ76 xs76 => congrArg Value.bool ((nat_eql (a := (((M.getD i46 (0, 0, 0)).1) % 2)) (b := 0)).trans (hc64))), ⟨kcast (A := ∀ (φ76 : Nat → Nat) (xs76 : Xs), (.bool (decide (((clampN (M.getD i46 (0, 0, 0)).2.2 : Nat) : Int) < ((64 : Nat) : Int))) : Value) = .bool false) (by kernel_rfl) (fun φ76 xs76 => congrArg Value.bool ((nat_lss (a := (clampN (M.getD i46 (0, 0, 0)).2.2)) (b := 64)).trans (hc75))), trivial⟩⟩⟩ trivial (by kernel_rfl) trivial ?k76
                    case k76 =>
                      rintro φ76 xs76 I76 w76 le76 s 
                      replace hM4 := TSl.mono le76 hM4
                      replace hle10 := leMono le76 hle10
                      replace hi11_2 := BoS.mono le76 hi11_2
                      replace h31_0 := BSl.mono le76 h31_0
                      replace h38_0 := BSl.mono le76 h38_0
                      replace hb42 := BSl.mono le76 hb42
                      replace hle45 := leMono le76 hle45
                      replace hH66 := leMono le76 hH66
                      replace hk50 := le76 _ _ hk50
                      refine cond_false_rule (b := false) (by kernel_rfl) rfl ?_
                      refine wp_skip ?_
                      refine region_rule ?_
                      refine ops_rule (C := []) [(b42, .cells #[.slice a42 (List.length (pk (wA M))) c42, .int .i64 ((QP M (i46 + 1) : Nat) : Int), .int .i64 0] 99)] [] 2 [] 0 (fun φ77 => [(69, .int .i64 (IntKind.wrap .i64 (((i46 : Nat) : Int) + ((1 : Nat) : Int)))), (128, .int .i64 (IntKind.wrap .i64 (((i46 : Nat) : Int) + ((1 : Nat) : Int))))]) (fun φ77 => [(b42, .cells #[.slice a42 (List.length (pk (wA M))) c42, .int .i64 ((QP M (i46 + 1) : Nat) : Int), .int .i64 0] 99)]) (fun φ77 => []) s trivial (fun φ77 => by kernel_rfl) ?_
                      intro φ77 w77 s
                      rw [nat_addI (a := i46) (b := 1) (by have hz1 := wA_len M; have hz2 := pk_len (wA M); have hz3 := tsl_bd hM4 (of_decide_eq_true hc48); have hq0 := of_decide_eq_false hc13; have hq1 := of_decide_eq_false hc36; have hq2 := of_decide_eq_true hc48; have hq3 := of_decide_eq_false hc52; have hq4 := of_decide_eq_true hc64; have hq5 := of_decide_eq_true hc65; have hq6 := of_decide_eq_true hc64; have hq7 := of_decide_eq_true hc65; have hq8 := of_decide_eq_false hc74; have hq9 := of_decide_eq_false hc75; omega)]
                      refine ops_done (by kernel_rfl) ?_
                      have hq9 := (of_decide_eq_true hc48)
                      exact ⟨⟨m46 - 1, i46 + 1, _, _, _, by omega, rfl, s, (List.Sublist.cons₂ _ List.Sublist.slnil), by kernel_rfl, hle45, by show i46 + 1 + (m46 - 1) = M.length; omega⟩⟩
              ·
                refine draw_rule (C := [((φ49 0), .cells #[.int .u8 (((M.getD i46 (0, 0, 0)).1 : Nat) : Int), .int .u64 (((M.getD i46 (0, 0, 0)).2.1 : Nat) : Int), .int .i64 ((M.getD i46 (0, 0, 0)).2.2)] 29)]) ⟨(fun φ78 xs78 => [.look 0 [] [], .look 0 [.c 0] [(φ49 0)], .sub 0 [] [] (.int .u8 (Int.tmod (((M.getD i46 (0, 0, 0)).1 : Nat) : Int) ((2 : Nat) : Int))), .sub 0 [] [] (.bool (((((M.getD i46 (0, 0, 0)).1) % 2 : Nat) : Int) == ((0 : Nat) : Int))), .look 0 [] [], .look 0 [] [], .sub 0 [] [] (.bool (((clampN (M.getD i46 (0, 0, 0)).2.2 : Nat) : Int) == ((64 : Nat) : Int))), .look 0 [] [], .look 0 [] [], .skip, .skip, .skip, .skip, .skip, .skip, .skip, .look 0 [] [], .look 0 [] []]), (fun φ78 xs78 => [.pointer (some ⟨(φ49 0), 0, none⟩), .int .u8 (((M.getD i46 (0, 0, 0)).1 : Nat) : Int), .int .u8 ((((M.getD i46 (0, 0, 0)).1) % 2 : Nat) : Int), .bool true, .bool true, .int .i64 ((clampN (M.getD i46 (0, 0, 0)).2.2 : Nat) : Int), .bool false, .bool false, .bool false, undef, undef, undef, undef, undef, undef, undef, .bool false, .bool false]), (fun φ78 xs78 => [[(b42, .cells #[.slice a42 (List.length (pk (wA M))) c42, .int .i64 ((QP M i46 : Nat) : Int), .int .i64 0] 99)]]), (fun φ78 xs78 => [[default, default, default, default, default, default, default, default, default, default, default, default, default, default, default, default, default, default]]), [], [1, 1, 5, 5, 1, 1, 5, 1, 1, 0, 0, 0, 0, 0, 0, 0, 1, 1]⟩ (fun j => ([MP.any, MP.any, MP.any, MP.any, MP.any, MP.any, MP.any, MP.any, MP.any, MP.any, MP.any, MP.any, MP.any, MP.any, MP.any, MP.any, MP.any, MP.any] : List MP).getD j MP.any) [] [2, 3, 6] [] (fun φ78 xs78 => []) (fun φ78 xs78 => [(90, .pointer (some ⟨(φ49 0), 0, none⟩)), (91, .int .u8 (((M.getD i46 (0, 0, 0)).1 : Nat) : Int)), (92, .int .u8 ((((M.getD i46 (0, 0, 0)).1) % 2 : Nat) : Int)), (93, .bool true), (94, .bool true), (95, .int .i64 ((clampN (M.getD i46 (0, 0, 0)).2.2 : Nat) : Int)), (96, .bool false), (97, .bool false), (98, .bool false), (99, undef), (100, undef), (101, undef), (102, undef), (103, undef), (104, undef), (105, undef), (106, .bool false), (89, .bool false)]) (fun φ78 xs78 => [(b42, .cells #[.slice a42 (List.length (pk (wA M))) c42, .int .i64 ((QP M i46 : Nat) : Int), .int .i64 0] 99)]) s ⟨hk50, trivial⟩ (by kernel_rfl) (by kernel_rfl) (fun _ _ => by kernel_rfl) (fun _ _ => by kernel_rfl) ⟨fun _ _ => by kernel_rfl, fun _ _ => by kernel_rfl, fun _ _ => by kernel_rfl, fun _ _ => by kernel_rfl⟩ (fun _ _ _ => by kernel_rfl) (fun _ _ => by kernel_rfl) (fun _ _ => by kernel_rfl) (fun _ _ => by kernel_rfl) (fun _ _ => by kernel_rfl) (fun _ _ => by kernel_rfl) ⟨kcast (A := ∀ (φ78 : Nat → Nat) (xs78 : Xs), (.int .u8 (Int.tmod (((M.getD i46 (0, 0, 0)).1 : Nat) : Int) ((2 : Nat) : Int)) : Value) = .int .u8 ((((M.getD i46 (0, 0, 0)).1) % 2 : Nat) : Int)) (by kernel_rfl) (fun φ78 xs78 => congrArg (Value.int .u8) ((nat_rem (a := ((M.getD i46 (0, 0, 0)).1)) (b := 2)))), ⟨kcast (A := ∀ (φ78 : Nat → Nat) (xs78 : Xs), (.bool (((((M.getD i46 (0, 0, 0)).1) % 2 : Nat) : Int) == ((0 : Nat) : Int)) : Value) = .bool true) (by kernel_rfl) (fun φ78 xs78 => congrArg Value.bool ((nat_eql (a := (((M.getD i46 (0, 0, 0)).1) % 2)) (b := 0)).trans (hc64))), ⟨kcast (A := ∀ (φ78 : Nat → Nat) (xs78 : Xs), (.bool (((clampN (M.getD i46 (0, 0, 0)).2.2 : Nat) : Int) == ((64 : Nat) : Int)) : Value) = .bool false) (by kernel_rfl) (fun φ78 xs78 => congrArg Value.bool ((nat_eql (a := (clampN (M.getD i46 (0, 0, 0)).2.2)) (b := 64)).trans (hc65))), trivial⟩⟩⟩ trivial (by kernel_rfl) trivial ?k78
                case k78 =>
                  rintro φ78 xs78 I78 w78 le78 s 
                  replace hM4 := TSl.mono le78 hM4
                  replace hle10 := leMono le78 hle10
                  replace hi11_2 := BoS.mono le78 hi11_2
                  replace h31_0 := BSl.mono le78 h31_0
                  replace h38_0 := BSl.mono le78 h38_0
                  replace hb42 := BSl.mono le78 hb42
                  replace hle45 := leMono le78 hle45
                  replace hk50 := le78 _ _ hk50
                  refine cond_false_rule (b := false) (by kernel_rfl) rfl ?_
                  refine wp_seq ?_
                  rcases Bool.eq_false_or_eq_true (decide ((clampN (M.getD i46 (0, 0, 0)).2.2) < 64)) with hc79 | hc79
                  ·
                    have hH80 := IM.Le.refl I78
                    refine held_begin (n := 21) (SubS I78) (by kernel_rfl) (by kernel_rfl) ?_
                    replace s := St.drew s
                    refine held_take (fuel := 20) [] [] 0 (.pointer (some ⟨(φ49 0), 0, none⟩)) (some 108) [] (I := I78) trivial (by kernel_rfl) (by kernel_rfl) (by kernel_rfl) (by kernel_rfl) (by kernel_rfl) (fun _ d' _ _ _ h => by cases d' <;> exact h) (by kernel_rfl) (by kernel_rfl) s.sub ?_
                    refine held_take (fuel := 19) [((φ49 0), .cells #[.int .u8 (((M.getD i46 (0, 0, 0)).1 : Nat) : Int), .int .u64 (((M.getD i46 (0, 0, 0)).2.1 : Nat) : Int), .int .i64 ((M.getD i46 (0, 0, 0)).2.2)] 29)] [.c 0] 1 (.int .u8 (((M.getD i46 (0, 0, 0)).1 : Nat) : Int)) (some 109) [(φ49 0)] (I := I78) ⟨hk50, trivial⟩ (by kernel_rfl) (by kernel_rfl) (by kernel_rfl) (by kernel_rfl) (by kernel_rfl) (fun _ d' _ _ _ h => by cases d' <;> exact h) (by kernel_rfl) (by kernel_rfl) s.sub ?_
                    refine held_one (fuel := 18) 2 (by kernel_rfl) (by kernel_rfl) ?_
                    refine ops_rule (C := []) [(b42, .cells #[.slice a42 (List.length (pk (wA M))) c42, .int .i64 ((QP M i46 : Nat) : Int), .int .i64 0] 99)] [] 1 [] 0 (fun φ81 => [(110, .int .u8 (Int.tmod (((M.getD i46 (0, 0, 0)).1 : Nat) : Int) ((2 : Nat) : Int)))]) (fun φ81 => [(b42, .cells #[.slice a42 (List.length (pk (wA M))) c42, .int .i64 ((QP M i46 : Nat) : Int), .int .i64 0] 99)]) (fun φ81 => []) s trivial (fun φ81 => by kernel_rfl) ?_
                    intro φ81 w81 s
                    rw [nat_rem (a := ((M.getD i46 (0, 0, 0)).1)) (b := 2)]
                    refine ops_done (by kernel_rfl) ?_
                    refine held_next s hH80 ?_
                    refine held_one (fuel := 17) 3 (by kernel_rfl) (by kernel_rfl) ?_
                    refine ops_rule (C := []) [(b42, .cells #[.slice a42 (List.length (pk (wA M))) c42, .int .i64 ((QP M i46 : Nat) : Int), .int .i64 0] 99)] [] 1 [] 0 (fun φ82 => [(111, .bool (((((M.getD i46 (0, 0, 0)).1) % 2 : Nat) : Int) == ((0 : Nat) : Int)))]) (fun φ82 => [(b42, .cells #[.slice a42 (List.length (pk (wA M))) c42, .int .i64 ((QP M i46 : Nat) : Int), .int .i64 0] 99)]) (fun φ82 => []) s trivial (fun φ82 => by kernel_rfl) ?_
                    intro φ82 w82 s
                    rw [nat_eql (a := (((M.getD i46 (0, 0, 0)).1) % 2)) (b := 0)]
                    rw [hc64]
                    refine ops_done (by kernel_rfl) ?_
                    refine held_next s hH80 ?_
                    refine held_take (fuel := 16) [] [] 4 (.bool true) (some 112) [] (I := I78) trivial (by kernel_rfl) (by kernel_rfl) (by kernel_rfl) (by kernel_rfl) (by kernel_rfl) (fun _ d' _ _ _ h => by cases d' <;> exact h) (by kernel_rfl) (by kernel_rfl) s.sub ?_
                    refine held_take (fuel := 15) [] [] 5 (.int .i64 ((clampN (M.getD i46 (0, 0, 0)).2.2 : Nat) : Int)) (some 113) [] (I := I78) trivial (by kernel_rfl) (by kernel_rfl) (by kernel_rfl) (by kernel_rfl) (by kernel_rfl) (fun _ d' _ _ _ h => by cases d' <;> exact h) (by kernel_rfl) (by kernel_rfl) s.sub ?_
                    refine held_one (fuel := 14) 6 (by kernel_rfl) (by kernel_rfl) ?_
                    refine ops_rule (C := []) [(b42, .cells #[.slice a42 (List.length (pk (wA M))) c42, .int .i64 ((QP M i46 : Nat) : Int), .int .i64 0] 99)] [] 1 [] 0 (fun φ83 => [(114, .bool (decide (((clampN (M.getD i46 (0, 0, 0)).2.2 : Nat) : Int) < ((64 : Nat) : Int))))]) (fun φ83 => [(b42, .cells #[.slice a42 (List.length (pk (wA M))) c42, .int .i64 ((QP M i46 : Nat) : Int), .int .i64 0] 99)]) (fun φ83 => []) s trivial (fun φ83 => by kernel_rfl) ?_
                    intro φ83 w83 s
                    rw [nat_lss (a := (clampN (M.getD i46 (0, 0, 0)).2.2)) (b := 64)]
                    rw [hc79]
                    refine ops_done (by kernel_rfl) ?_
                    refine held_next s hH80 ?_
                    refine held_one (fuel := 13) 7 (by kernel_rfl) (by kernel_rfl) ?_
                    refine ops_rule (C := []) [(b42, .cells #[.slice a42 (List.length (pk (wA M))) c42, .int .i64 ((QP M i46 : Nat) : Int), .int .i64 0] 99)] [] 1 [] 0 (fun φ84 => [(115, .bool true)]) (fun φ84 => [(b42, .cells #[.slice a42 (List.length (pk (wA M))) c42, .int .i64 ((QP M i46 : Nat) : Int), .int .i64 0] 99)]) (fun φ84 => []) s trivial (fun φ84 => by kernel_rfl) ?_
                    intro φ84 w84 s
                    refine ops_done (by kernel_rfl) ?_
                    refine held_next s hH80 ?_
                    refine held_take (fuel := 12) [] [] 8 (.bool true) (some 116) [] (I := I78) trivial (by kernel_rfl) (by kernel_rfl) (by kernel_rfl) (by kernel_rfl) (by kernel_rfl) (fun _ d' _ _ _ h => by cases d' <;> exact h) (by kernel_rfl) (by kernel_rfl) s.sub ?_
                    refine held_take (fuel := 11) [] [] 9 (.pointer (some ⟨b42, 0, none⟩)) (some 117) [] (I := I78) trivial (by kernel_rfl) (by kernel_rfl) (by kernel_rfl) (by kernel_rfl) (by kernel_rfl) (fun _ d' _ _ _ h => by cases d' <;> exact h) (by kernel_rfl) (by kernel_rfl) s.sub ?_
                    refine held_take (fuel := 10) [] [] 10 (.pointer (some ⟨(φ49 0), 2, none⟩)) (some 118) [] (I := I78) trivial (by kernel_rfl) (by kernel_rfl) (by kernel_rfl) (by kernel_rfl) (by kernel_rfl) (fun _ d' _ _ _ h => by cases d' <;> exact h) (by kernel_rfl) (by kernel_rfl) s.sub ?_
                    refine held_take (fuel := 9) [((φ49 0), .cells #[.int .u8 (((M.getD i46 (0, 0, 0)).1 : Nat) : Int), .int .u64 (((M.getD i46 (0, 0, 0)).2.1 : Nat) : Int), .int .i64 ((M.getD i46 (0, 0, 0)).2.2)] 29)] [.c 0] 11 (.int .i64 ((M.getD i46 (0, 0, 0)).2.2)) (some 119) [(φ49 0)] (I := I78) ⟨hk50, trivial⟩ (by kernel_rfl) (by kernel_rfl) (by kernel_rfl) (by kernel_rfl) (by kernel_rfl) (fun _ d' _ _ _ h => by cases d' <;> exact h) (by kernel_rfl) (by kernel_rfl) s.sub ?_
                    refine held_take (fuel := 8) [] [] 13 (.pointer (some ⟨(φ49 0), 1, none⟩)) (some 121) [] (I := I78) trivial (by kernel_rfl) (by kernel_rfl) (by kernel_rfl) (by kernel_rfl) (by kernel_rfl) (fun _ d' _ _ _ h => by cases d' <;> exact h) (by kernel_rfl) (by kernel_rfl) s.sub ?_
                    refine held_take (fuel := 7) [((φ49 0), .cells #[.int .u8 (((M.getD i46 (0, 0, 0)).1 : Nat) : Int), .int .u64 (((M.getD i46 (0, 0, 0)).2.1 : Nat) : Int), .int .i64 ((M.getD i46 (0, 0, 0)).2.2)] 29)] [.c 0] 14 (.int .u64 (((M.getD i46 (0, 0, 0)).2.1 : Nat) : Int)) (some 122) [(φ49 0)] (I := I78) ⟨hk50, trivial⟩ (by kernel_rfl) (by kernel_rfl) (by kernel_rfl) (by kernel_rfl) (by kernel_rfl) (fun _ d' _ _ _ h => by cases d' <;> exact h) (by kernel_rfl) (by kernel_rfl) s.sub ?_
                    refine held_take (fuel := 6) [] [] 15 (.int .i64 ((clampN (M.getD i46 (0, 0, 0)).2.2 : Nat) : Int)) (some 123) [] (I := I78) trivial (by kernel_rfl) (by kernel_rfl) (by kernel_rfl) (by kernel_rfl) (by kernel_rfl) (fun _ d' _ _ _ h => by cases d' <;> exact h) (by kernel_rfl) (by kernel_rfl) s.sub ?_
                    refine held_ran (fuel := 5) (binOp .shl 27 (.int .u64 1) (.int .i64 ((clampN (M.getD i46 (0, 0, 0)).2.2 : Nat) : Int))) 16 (.int .u64 ((2 ^ (clampN (M.getD i46 (0, 0, 0)).2.2) : Nat) : Int)) (some 124) (I := I78) (by kernel_rfl) (by kernel_rfl) (by kernel_rfl) (by kernel_rfl) (by kernel_rfl) (fun _ d' _ _ _ h => by cases d' <;> exact h) (by kernel_rfl) (by kernel_rfl) (fun w' => run_shl1 (by have h7 := of_decide_eq_true hc79; omega)) s.sub ?_
                    refine held_ran (fuel := 4) (binOp .rem 27 (.int .u64 (((M.getD i46 (0, 0, 0)).2.1 : Nat) : Int)) (.int .u64 ((2 ^ (clampN (M.getD i46 (0, 0, 0)).2.2) : Nat) : Int))) 17 (.int .u64 ((((M.getD i46 (0, 0, 0)).2.1) % (2 ^ (clampN (M.getD i46 (0, 0, 0)).2.2)) : Nat) : Int)) (some 125) (I := I78) (by kernel_rfl) (by kernel_rfl) (by kernel_rfl) (by kernel_rfl) (by kernel_rfl) (fun _ d' _ _ _ h => by cases d' <;> exact h) (by kernel_rfl) (by kernel_rfl) (fun w' => run_remU (Nat.two_pow_pos _)) s.sub ?_
                    refine held_one (fuel := 3) 12 (by kernel_rfl) (by kernel_rfl) ?_
                    refine callB_rule (b := (b42, .cells #[.slice a42 (List.length (pk (wA M))) c42, .int .i64 ((QP M i46 : Nat) : Int), .int .i64 0] 99)) (H := [(b42, .cells #[.slice a42 (List.length (pk (wA M))) c42, .int .i64 ((QP M i46 : Nat) : Int), .int .i64 0] 99)]) (F := []) (Hr := []) (some 120) 0 s (by kernel_rfl) (by kernel_rfl) (rgGet_c (r := b42) (i := i46) hb42 h25 (of_decide_eq_true hc48) (by have hv0 := of_decide_eq_false hc52; have hv1 := of_decide_eq_true hc64; have hv2 := of_decide_eq_true hc64; omega)) (by kernel_rfl) ?_
                    rintro v85 I85 w85 b85 le85 - h85 s
                    replace hM4 := TSl.mono le85 hM4
                    replace hle10 := leMono le85 hle10
                    replace hi11_2 := BoS.mono le85 hi11_2
                    replace h31_0 := BSl.mono le85 h31_0
                    replace h38_0 := BSl.mono le85 h38_0
                    replace hb42 := BSl.mono le85 hb42
                    replace hle45 := leMono le85 hle45
                    replace hH80 := leMono le85 hH80
                    replace hk50 := le85 _ _ hk50
                    obtain ⟨rfl, rfl⟩ := h85
                    refine ops_done (by kernel_rfl) ?_
                    refine held_next s hH80 ?_
                    refine held_one (fuel := 2) 18 (by kernel_rfl) (by kernel_rfl) ?_
                    refine ops_rule (C := []) [(b42, .cells #[.slice a42 (List.length (pk (wA M))) c42, .int .i64 ((QP M (i46 + 1) : Nat) : Int), .int .i64 0] 99)] [] 1 [] 0 (fun φ86 => [(126, .bool (((((M.getD i46 (0, 0, 0)).2.1) % (2 ^ (clampN (M.getD i46 (0, 0, 0)).2.2)) : Nat) : Int) != ((((M.getD i46 (0, 0, 0)).2.1) % (2 ^ (clampN (M.getD i46 (0, 0, 0)).2.2)) : Nat) : Int)))]) (fun φ86 => [(b42, .cells #[.slice a42 (List.length (pk (wA M))) c42, .int .i64 ((QP M (i46 + 1) : Nat) : Int), .int .i64 0] 99)]) (fun φ86 => []) s trivial (fun φ86 => by kernel_rfl) ?_
                    intro φ86 w86 s
                    rw [(nat_neq (a := (((M.getD i46 (0, 0, 0)).2.1) % (2 ^ (clampN (M.getD i46 (0, 0, 0)).2.2)))) (b := (((M.getD i46 (0, 0, 0)).2.1) % (2 ^ (clampN (M.getD i46 (0, 0, 0)).2.2))))).trans (decide_eq_false (fun q => q rfl))]
                    refine ops_done (by kernel_rfl) ?_
                    refine held_next s hH80 ?_
                    refine held_one (fuel := 1) 19 (by kernel_rfl) (by kernel_rfl) ?_
                    refine ops_rule (C := []) [(b42, .cells #[.slice a42 (List.length (pk (wA M))) c42, .int .i64 ((QP M (i46 + 1) : Nat) : Int), .int .i64 0] 99)] [] 1 [] 0 (fun φ87 => [(127, .bool false)]) (fun φ87 => [(b42, .cells #[.slice a42 (List.length (pk (wA M))) c42, .int .i64 ((QP M (i46 + 1) : Nat) : Int), .int .i64 0] 99)]) (fun φ87 => []) s trivial (fun φ87 => by kernel_rfl) ?_
                    intro φ87 w87 s
                    refine ops_done (by kernel_rfl) ?_
                    refine held_next s hH80 ?_
                    refine held_take (fuel := 0) [] [] 20 (.bool false) (some 107) [] (I := I78) trivial (by kernel_rfl) (by kernel_rfl) (by kernel_rfl) (by kernel_rfl) (by kernel_rfl) (fun _ d' _ _ _ h => by cases d' <;> exact h) (by kernel_rfl) (by kernel_rfl) (fun k o hk => s.sub k o (hH80 k o hk)) ?_
                    refine Go.wpAnyH_done (by kernel_rfl) ?_ _
                    refine cond_false_rule (b := false) (by kernel_rfl) rfl ?_
                    refine wp_skip ?_
                    refine region_rule ?_
                    refine ops_rule (C := []) [(b42, .cells #[.slice a42 (List.length (pk (wA M))) c42, .int .i64 ((QP M (i46 + 1) : Nat) : Int), .int .i64 0] 99)] [] 2 [] 0 (fun φ88 => [(69, .int .i64 (IntKind.wrap .i64 (((i46 : Nat) : Int) + ((1 : Nat) : Int)))), (128, .int .i64 (IntKind.wrap .i64 (((i46 : Nat) : Int) + ((1 : Nat) : Int))))]) (fun φ88 => [(b42, .cells #[.slice a42 (List.length (pk (wA M))) c42, .int .i64 ((QP M (i46 + 1) : Nat) : Int), .int .i64 0] 99)]) (fun φ88 => []) s trivial (fun φ88 => by kernel_rfl) ?_
                    intro φ88 w88 s
                    rw [nat_addI (a := i46) (b := 1) (by have hz1 := wA_len M; have hz2 := pk_len (wA M); have hz3 := tsl_bd hM4 (of_decide_eq_true hc48); have hq0 := of_decide_eq_false hc13; have hq1 := of_decide_eq_false hc36; have hq2 := of_decide_eq_true hc48; have hq3 := of_decide_eq_false hc52; have hq4 := of_decide_eq_true hc64; have hq5 := of_decide_eq_false hc65; have hq6 := of_decide_eq_true hc79; have hq7 := of_decide_eq_true hc64; have hq8 := of_decide_eq_true hc79; omega)]
                    refine ops_done (by kernel_rfl) ?_
                    have hq9 := (of_decide_eq_true hc48)
                    exact ⟨⟨m46 - 1, i46 + 1, _, _, _, by omega, rfl, s, (List.Sublist.cons₂ _ List.Sublist.slnil), by kernel_rfl, hle45, by show i46 + 1 + (m46 - 1) = M.length; omega⟩⟩
                  ·
                    exact absurd (of_decide_eq_false hc79) (by have h6 := clampN_le (M.getD i46 (0, 0, 0)).2.2; have h7 := of_decide_eq_false hc65; omega)
            ·
              exact absurd (of_decide_eq_false hc64) (by have h7 := of_decide_eq_false hc52; omega)
      ·
        rw [hc48]
        refine cond_false_rule (b := false) (by kernel_rfl) rfl ?_
        refine wp_exit ?_
        refine wp_seq ?_
        refine region_rule ?_
        refine ops_rule (C := []) [(b42, .cells #[.slice a42 (List.length (pk (wA M))) c42, .int .i64 ((QP M i46 : Nat) : Int), .int .i64 0] 99)] [] 1 [] 0 (fun φ89 => [(129, .pointer (some ⟨b42, 0, none⟩))]) (fun φ89 => [(b42, .cells #[.slice a42 (List.length (pk (wA M))) c42, .int .i64 ((QP M i46 : Nat) : Int), .int .i64 0] 99)]) (fun φ89 => []) s trivial (fun φ89 => by kernel_rfl) ?_
        intro φ89 w89 s
        refine callB_rule (b := (b42, .cells #[.slice a42 (List.length (pk (wA M))) c42, .int .i64 ((QP M i46 : Nat) : Int), .int .i64 0] 99)) (H := [(b42, .cells #[.slice a42 (List.length (pk (wA M))) c42, .int .i64 ((QP M i46 : Nat) : Int), .int .i64 0] 99)]) (F := []) (Hr := []) (some 130) 0 s (by kernel_rfl) (by kernel_rfl) (err_c (r := b42) (v0 := .slice a42 (List.length (pk (wA M))) c42) (v1 := .int .i64 ((QP M i46 : Nat) : Int)) (e := 0)) (by kernel_rfl) ?_
        rintro v90 I90 w90 b90 le90 - h90 s
        replace hM4 := TSl.mono le90 hM4
        replace hle10 := leMono le90 hle10
        replace hi11_2 := BoS.mono le90 hi11_2
        replace h31_0 := BSl.mono le90 h31_0
        replace h38_0 := BSl.mono le90 h38_0
        replace hb42 := BSl.mono le90 hb42
        replace hle45 := leMono le90 hle45
        obtain ⟨rfl, rfl⟩ := h90
        refine ops_rule (C := []) [(b42, .cells #[.slice a42 (List.length (pk (wA M))) c42, .int .i64 ((QP M i46 : Nat) : Int), .int .i64 0] 99)] [] 3 [] 0 (fun φ91 => [(133, .pointer (some ⟨b42, 0, none⟩)), (132, .bool true), (131, .bool true)]) (fun φ91 => [(b42, .cells #[.slice a42 (List.length (pk (wA M))) c42, .int .i64 ((QP M i46 : Nat) : Int), .int .i64 0] 99)]) (fun φ91 => []) s trivial (fun φ91 => by kernel_rfl) ?_
        intro φ91 w91 s
        refine callB_rule (b := (b42, .cells #[.slice a42 (List.length (pk (wA M))) c42, .int .i64 ((QP M i46 : Nat) : Int), .int .i64 0] 99)) (H := [(b42, .cells #[.slice a42 (List.length (pk (wA M))) c42, .int .i64 ((QP M i46 : Nat) : Int), .int .i64 0] 99)]) (F := []) (Hr := []) (some 134) 0 s (by kernel_rfl) (by kernel_rfl) (left_c (e := 0) (r := b42) (p := QP M i46) hb42 (pk_short h25) (wA_room)) (by kernel_rfl) ?_
        rintro v92 I92 w92 b92 le92 - h92 s
        replace hM4 := TSl.mono le92 hM4
        replace hle10 := leMono le92 hle10
        replace hi11_2 := BoS.mono le92 hi11_2
        replace h31_0 := BSl.mono le92 h31_0
        replace h38_0 := BSl.mono le92 h38_0
        replace hb42 := BSl.mono le92 hb42
        replace hle45 := leMono le92 hle45
        obtain ⟨rfl, rfl⟩ := h92
        refine ops_rule (C := []) [(b42, .cells #[.slice a42 (List.length (pk (wA M))) c42, .int .i64 ((QP M i46 : Nat) : Int), .int .i64 0] 99)] [] 9 [] 0 (fun φ93 => [(143, .bool ((((pk (wA M)).length * 8 - (QP M i46) : Nat) : Int) == (IntKind.wrap .i64 ((IntKind.wrap .i64 (((8 : Nat) : Int) * (((List.length (pk (wA M))) : Nat) : Int))) - (((List.length (wA M)) : Nat) : Int))))), (142, .bool ((((pk (wA M)).length * 8 - (QP M i46) : Nat) : Int) == (IntKind.wrap .i64 ((IntKind.wrap .i64 (((8 : Nat) : Int) * (((List.length (pk (wA M))) : Nat) : Int))) - (((List.length (wA M)) : Nat) : Int))))), (141, .bool ((((pk (wA M)).length * 8 - (QP M i46) : Nat) : Int) == (IntKind.wrap .i64 ((IntKind.wrap .i64 (((8 : Nat) : Int) * (((List.length (pk (wA M))) : Nat) : Int))) - (((List.length (wA M)) : Nat) : Int))))), (140, .int .i64 (IntKind.wrap .i64 ((IntKind.wrap .i64 (((8 : Nat) : Int) * (((List.length (pk (wA M))) : Nat) : Int))) - (((List.length (wA M)) : Nat) : Int)))), (139, .int .i64 (((List.length (wA M)) : Nat) : Int)), (138, .slice a11 (List.length (wA M)) c11), (137, .int .i64 (IntKind.wrap .i64 (((8 : Nat) : Int) * (((List.length (pk (wA M))) : Nat) : Int)))), (136, .int .i64 (((List.length (pk (wA M))) : Nat) : Int)), (135, .slice a31 (List.length (pk (wA M))) c31)]) (fun φ93 => [(b42, .cells #[.slice a42 (List.length (pk (wA M))) c42, .int .i64 ((QP M i46 : Nat) : Int), .int .i64 0] 99)]) (fun φ93 => []) s trivial (fun φ93 => by kernel_rfl) ?_
        intro φ93 w93 s
        rw [nat_mulI (a := 8) (b := (List.length (pk (wA M)))) (by have hz1 := wA_len M; have hz2 := pk_len (wA M); have hq0 := of_decide_eq_false hc13; have hq1 := of_decide_eq_false hc36; have hq2 := of_decide_eq_false hc48; omega)]
        rw [nat_subI (a := (8 * (List.length (pk (wA M))))) (b := (List.length (wA M))) (by have hz1 := wA_len M; have hz2 := pk_len (wA M); have hq0 := of_decide_eq_false hc13; have hq1 := of_decide_eq_false hc36; have hq2 := of_decide_eq_false hc48; omega) (by have hz1 := wA_len M; have hz2 := pk_len (wA M); have hq0 := of_decide_eq_false hc13; have hq1 := of_decide_eq_false hc36; have hq2 := of_decide_eq_false hc48; omega)]
        rw [nat_eql (a := ((pk (wA M)).length * 8 - (QP M i46))) (b := ((8 * (List.length (pk (wA M)))) - (List.length (wA M))))]
        rcases Bool.eq_false_or_eq_true (decide (((pk (wA M)).length * 8 - (QP M i46)) = ((8 * (List.length (pk (wA M)))) - (List.length (wA M))))) with hc94 | hc94
        ·
          rw [hc94]
          refine ops_rule (C := []) [(b42, .cells #[.slice a42 (List.length (pk (wA M))) c42, .int .i64 ((QP M i46 : Nat) : Int), .int .i64 0] 99)] [] 1 [] 0 (fun φ95 => [(144, .pointer (some ⟨b42, 0, none⟩))]) (fun φ95 => [(b42, .cells #[.slice a42 (List.length (pk (wA M))) c42, .int .i64 ((QP M i46 : Nat) : Int), .int .i64 0] 99)]) (fun φ95 => []) s trivial (fun φ95 => by kernel_rfl) ?_
          intro φ95 w95 s
          refine callB_rule (b := (b42, .cells #[.slice a42 (List.length (pk (wA M))) c42, .int .i64 ((QP M i46 : Nat) : Int), .int .i64 0] 99)) (H := [(b42, .cells #[.slice a42 (List.length (pk (wA M))) c42, .int .i64 ((QP M i46 : Nat) : Int), .int .i64 0] 99)]) (F := []) (Hr := []) (some 145) 0 s (by kernel_rfl) (by kernel_rfl) (rgEnd_c (r := b42) (i := i46) hb42 h25 (of_decide_eq_false hc48)) (by kernel_rfl) ?_
          rintro v96 I96 w96 b96 le96 - h96 s
          replace hM4 := TSl.mono le96 hM4
          replace hle10 := leMono le96 hle10
          replace hi11_2 := BoS.mono le96 hi11_2
          replace h31_0 := BSl.mono le96 h31_0
          replace h38_0 := BSl.mono le96 h38_0
          replace hb42 := BSl.mono le96 hb42
          replace hle45 := leMono le96 hle45
          obtain ⟨rfl, rfl⟩ := h96
          refine ops_rule (C := []) [(b42, .cells #[.slice a42 (List.length (pk (wA M))) c42, .int .i64 ((QP M i46 : Nat) : Int), .int .i64 0] 99)] [] 3 [] 0 (fun φ97 => [(2, .bool true), (147, .bool true), (146, .bool true)]) (fun φ97 => [(b42, .cells #[.slice a42 (List.length (pk (wA M))) c42, .int .i64 ((QP M i46 : Nat) : Int), .int .i64 0] 99)]) (fun φ97 => []) s trivial (fun φ97 => by kernel_rfl) ?_
          intro φ97 w97 s
          refine ops_done (by kernel_rfl) ?_
          refine wp_ret ?_
          refine ret_rule (C := []) [(b42, .cells #[.slice a42 (List.length (pk (wA M))) c42, .int .i64 ((QP M i46 : Nat) : Int), .int .i64 0] 99)] [] (.bool true) [] [] s trivial (by kernel_rfl) ?_
          exact ⟨_, _, _, rfl, s, rfl⟩
        ·
          exact absurd (show _ from (by have e8 : M.take i46 = M := List.take_of_length_le (by have h7 := of_decide_eq_false hc48; omega); simp only [QP, e8]; omega)) (of_decide_eq_false hc94)

end Go.Proofs.Ytpnlaeapnokipaa

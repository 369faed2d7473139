/- WireRows. -/
import Derived.Test.YtpnlaeapnokipaaRW7
import Derived.Test.YtpnlaeapnokipaaRB8
set_option linter.all false
set_option maxRecDepth 100000
namespace Go.Proofs.Ytpnlaeapnokipaa
open Go.RowKit Go.Sep
attribute [local irreducible] Go.wpList Go.Code.wp

theorem frameF_c {I : IM} {l : List UInt8} {a : Option Addr} {n c : Nat} (hl : BSl I l (.slice a n c)) (hn : l.length ≤ 1000000) : Fun Try.prog 39 #[.slice a n c] I (fun v J => bsR (frameL l) v J) := fun_of_rowB (frame_r hl hn)
theorem openF_c {I : IM} {l : List UInt8} {a : Option Addr} {n c : Nat} (hl : BSl I l (.slice a n c)) (e : l = []) : Fun Try.prog 40 #[.slice a n c] I (fun v J => ∃ (a : Option Addr) (c : Nat), v = .tuple #[.slice a 0 c, .int .i64 0, .int .i64 6]) := by
  subst e
  have h := open_c hl (by decide)
  rw [show openD [] = ([], 0, 6) from rfl] at h
  exact h.mono fun v J _ ⟨a, c, h, _⟩ => ⟨a, c, h⟩
theorem ll_len {L : List (List UInt8)} : List.length (L.take (min L.length 8)) = min L.length 8 := by rw [List.length_take]; omega

theorem row_castB {v : Value} {n : Nat} {l l2 : List UInt8} {F : List OB} (h : RowH 5 1 v n (l.map bV) F) (e : l = l2) : RowH 5 1 v l2.length (l2.map bV) F := by
  subst e
  have : n = l.length := by have := h.1; simpa using this.symm
  subst this; exact h

theorem frameL_len50 {p : List UInt8} : (frameL (p.take 50)).length = 8 + List.length (p.take 50) := frameL_len _

set_option maxHeartbeats 8000000 in
theorem wireRows_c {I : IM} {L : List (List UInt8)} {a : Option Addr} {n c : Nat} (hL : SSl I L (.slice a n c)) : Fun Try.prog 13 #[.slice a n c] I (fun v J => v = .bool true) := by
  obtain ⟨rfl, -⟩ := hL.cap
  have hL8 := ssl_to (hi := min L.length 8) hL (by omega)
  refine enter_rule 78 [(0, .slice a L.length c)] Try.func13 rfl (by kernel_rfl) ?_
  intro w s
  refine wp_seq ?_
  refine region_rule ?_
  refine ops_rule (C := []) [] [] 1 [] 0 (fun φ1 => [(2, .bool false)]) (fun φ1 => []) (fun φ1 => []) s trivial (fun φ1 => by kernel_rfl) ?_
  intro φ1 w1 s
  refine ops_done (by kernel_rfl) ?_
  refine wp_seq ?_
  refine wp_seq ?_
  refine region_rule ?_
  refine call_rule (some 14) s (awake6_c) (by kernel_rfl) ?_
  intro v2 I2 w2 le2 h2 s
  replace hL := SSl.mono le2 hL
  replace hL8 := SSl.mono le2 hL8
  obtain rfl := h2
  refine ops_rule (C := []) [] [] 1 [] 0 (fun φ3 => [(15, .bool false)]) (fun φ3 => []) (fun φ3 => []) s trivial (fun φ3 => by kernel_rfl) ?_
  intro φ3 w3 s
  refine ops_done (by kernel_rfl) ?_
  refine cond_false_rule (b := false) (by kernel_rfl) rfl ?_
  refine wp_skip ?_
  refine wp_seq ?_
  refine region_rule ?_
  refine ops_rule (C := []) [] [] 4 [] 0 (fun φ4 => [(19, .int .i64 (if ((8 : Nat) : Int) < ((L.length : Nat) : Int) then ((8 : Nat) : Int) else ((L.length : Nat) : Int))), (18, .int .i64 ((L.length : Nat) : Int)), (17, .slice a L.length c), (16, .slice a L.length c)]) (fun φ4 => []) (fun φ4 => []) s trivial (fun φ4 => by kernel_rfl) ?_
  intro φ4 w4 s
  rw [nat_min (a := L.length) (b := 8)]
  refine sem_rule (Instr.sliceAt 93 (.slice a L.length c) none (some (.int .i64 ((min L.length 8 : Nat) : Int))) none) (some 20) (.slice a (min L.length 8) c) (by kernel_rfl) (run_toL (by have := hL.cap.2; omega)) ?_
  refine ops_rule (C := []) [] [] 1 [] 0 (fun φ5 => [(0, .slice a (min L.length 8) c)]) (fun φ5 => []) (fun φ5 => []) s trivial (fun φ5 => by kernel_rfl) ?_
  intro φ5 w5 s
  refine ops_done (by kernel_rfl) ?_
  refine wp_seq ?_
  refine region_rule ?_
  refine ops_rule (C := []) [] [] 1 [] 0 (fun φ6 => [(3, .slice none 0 0)]) (fun φ6 => []) (fun φ6 => []) s trivial (fun φ6 => by kernel_rfl) ?_
  intro φ6 w6 s
  refine ops_done (by kernel_rfl) ?_
  refine wp_seq ?_
  refine wp_seq ?_
  refine region_rule ?_
  refine ops_rule (C := []) [] [] 3 [] 0 (fun φ7 => [(23, .int .i64 0), (22, .int .i64 (((min L.length 8) : Nat) : Int)), (21, .slice a (min L.length 8) c)]) (fun φ7 => []) (fun φ7 => []) s trivial (fun φ7 => by kernel_rfl) ?_
  intro φ7 w7 s
  refine ops_done (by kernel_rfl) ?_
  refine wp_block ?_
  have hle8 := IM.Le.refl I2
  refine loop_rule (fun (x : Nat × Value × List OB) => [(0, .slice a (min L.length 8) c), (21, .slice a (min L.length 8) c), (22, .int .i64 (((min L.length 8) : Nat) : Int)), (23, .int .i64 ((x.1 : Nat) : Int)), (3, x.2.1)]) (fun (x : Nat × Value × List OB) => [] ++ x.2.2) (fun m (x : Nat × Value × List OB) J => IM.Le I2 J ∧ x.1 + m = (min L.length 8) ∧ RowH 5 1 x.2.1 (allL ((L.take (min L.length 8)).take x.1)).length ((allL ((L.take (min L.length 8)).take x.1)).map bV) x.2.2) ((min L.length 8)) (0, (.slice none 0 0), []) s (by kernel_rfl) (List.Sublist.refl _) ⟨IM.Le.refl _, Nat.zero_add _, row_nilB⟩ ?_
  rintro m9 ⟨i9, v9, F9⟩ I9 w9 ev9 s ⟨le9, hi9_0, hi9_1⟩
  try dsimp only at s hi9_0 hi9_1 ⊢
  replace hL := SSl.mono le9 hL
  replace hL8 := SSl.mono le9 hL8
  replace hle8 := leMono le9 hle8
  refine wp_seq ?_
  refine region_rule ?_
  refine ops_rule (C := []) [] F9 1 [] 0 (fun φ10 => [(24, .bool (decide (((i9 : Nat) : Int) < (((min L.length 8) : Nat) : Int))))]) (fun φ10 => []) (fun φ10 => []) s trivial (fun φ10 => by kernel_rfl) ?_
  intro φ10 w10 s
  rw [nat_lss (a := i9) (b := (min L.length 8))]
  refine ops_done (by kernel_rfl) ?_
  refine wp_seq ?_
  rcases Bool.eq_false_or_eq_true (decide (i9 < (min L.length 8))) with hc11 | hc11
  ·
    rw [hc11]
    refine cond_true_rule (b := true) (by kernel_rfl) rfl ?_
    refine wp_skip ?_
    refine wp_seq ?_
    refine wp_block ?_
    refine wp_seq ?_
    refine region_rule ?_
    refine sem_rule (Instr.indexAt 93 (.slice a (min L.length 8) c) (.int .i64 ((i9 : Nat) : Int))) (some 25) (.pointer (pAt a i9)) (by kernel_rfl) (ssl_idx hL8 (by rw [ll_len]; have hq0 := of_decide_eq_true hc11; omega)) ?_
    obtain ⟨a12, c12, hr12, hb12⟩ := ssl_ld s.sub hL8 (show i9 < List.length (L.take (min L.length 8)) by rw [ll_len]; have hq0 := of_decide_eq_true hc11; omega)
    refine sem_rule (Instr.loadAt 34 (.pointer (pAt a i9))) (some 26) (.slice a12 (List.length ((L.take (min L.length 8)).getD i9 [])) c12) (by kernel_rfl) hr12 ?_
    refine ops_rule (C := []) [] F9 1 [] 0 (fun φ13 => [(5, .slice a12 (List.length ((L.take (min L.length 8)).getD i9 [])) c12)]) (fun φ13 => []) (fun φ13 => []) s trivial (fun φ13 => by kernel_rfl) ?_
    intro φ13 w13 s
    refine ops_done (by kernel_rfl) ?_
    refine region_rule ?_
    refine ops_rule (C := []) [] F9 2 [] 0 (fun φ14 => [(28, .slice a12 (List.length ((L.take (min L.length 8)).getD i9 [])) c12), (27, v9)]) (fun φ14 => []) (fun φ14 => []) s trivial (fun φ14 => by kernel_rfl) ?_
    intro φ14 w14 s
    refine call_rule (some 29) s (cut_c (m := 50) hb12 (by decide)) (by kernel_rfl) ?_
    intro v15 I15 w15 le15 h15 s
    replace hL := SSl.mono le15 hL
    replace hL8 := SSl.mono le15 hL8
    replace hle8 := leMono le15 hle8
    replace hb12 := BSl.mono le15 hb12
    obtain ⟨a15, c15, rfl, h15_0⟩ := h15
    refine call_rule (some 30) s (frameF_c h15_0 (by simp only [List.length_take]; omega)) (by kernel_rfl) ?_
    intro v16 I16 w16 le16 h16 s
    replace hL := SSl.mono le16 hL
    replace hL8 := SSl.mono le16 hL8
    replace hle8 := leMono le16 hle8
    replace hb12 := BSl.mono le16 hb12
    replace h15_0 := BSl.mono le16 h15_0
    obtain ⟨a16, c16, rfl, h16_0⟩ := h16
    refine append_rule (H := []) (F := F9) 34 34 5 Try.t5 (.int .u8 0) 1 1 (some 31) s Try.underlying34 (by kernel_rfl) (by kernel_rfl) (by kernel_rfl) (by kernel_rfl) (by kernel_rfl) (by decide) hi9_1 (src_bsl s.sub h16_0) (by have hal := allL_len ((L.take (min L.length 8)).take i9); simp only [List.length_take] at hal; (try simp only [maxLen, frameL_len, List.length_take, List.length_append]); have hq0 := of_decide_eq_true hc11; omega) (by have hal := allL_len ((L.take (min L.length 8)).take i9); simp only [List.length_take] at hal; (try simp only [maxLen, frameL_len, List.length_take, List.length_append]); have hq0 := of_decide_eq_true hc11; omega) (by kernel_rfl) ?_
    intro v17 w17 F17 s h17
    replace h17 : RowH 5 1 v17 (((allL ((L.take (min L.length 8)).take i9)) ++ (frameL (((L.take (min L.length 8)).getD i9 []).take 50))).length) (((allL ((L.take (min L.length 8)).take i9)) ++ (frameL (((L.take (min L.length 8)).getD i9 []).take 50))).map bV) F17 := row_app (x := (allL ((L.take (min L.length 8)).take i9))) (y := (frameL (((L.take (min L.length 8)).getD i9 []).take 50))) h17
    refine ops_rule (C := []) [] F17 1 [] 0 (fun φ18 => [(3, v17)]) (fun φ18 => []) (fun φ18 => []) s trivial (fun φ18 => by kernel_rfl) ?_
    intro φ18 w18 s
    refine ops_done (by kernel_rfl) ?_
    refine region_rule ?_
    refine ops_rule (C := []) [] F17 2 [] 0 (fun φ19 => [(23, .int .i64 (IntKind.wrap .i64 (((i9 : Nat) : Int) + ((1 : Nat) : Int)))), (32, .int .i64 (IntKind.wrap .i64 (((i9 : Nat) : Int) + ((1 : Nat) : Int))))]) (fun φ19 => []) (fun φ19 => []) s trivial (fun φ19 => by kernel_rfl) ?_
    intro φ19 w19 s
    rw [nat_addI (a := i9) (b := 1) (by  have hq0 := of_decide_eq_true hc11; omega)]
    refine ops_done (by kernel_rfl) ?_
    have hq9 := of_decide_eq_true hc11
    have hrw9 : RowH 5 1 v17 (allL ((L.take (min L.length 8)).take (i9 + 1))).length ((allL ((L.take (min L.length 8)).take (i9 + 1))).map bV) F17 := row_castB h17 (allL_snoc (by rw [ll_len]; omega))
    exact ⟨⟨m9 - 1, (i9 + 1, v17, F17), _, _, _, by omega, rfl, s, (List.Sublist.append List.Sublist.slnil (List.Sublist.refl _)), by kernel_rfl, hle8, by show i9 + 1 + (m9 - 1) = (min L.length 8); omega, hrw9⟩⟩
  ·
    rw [hc11]
    refine cond_false_rule (b := false) (by kernel_rfl) rfl ?_
    refine wp_exit ?_
    refine wp_seq ?_
    refine wp_seq ?_
    refine region_rule ?_
    refine ops_rule (C := []) [] F9 3 [] 0 (fun φ20 => [(35, .int .i64 0), (34, .int .i64 (((min L.length 8) : Nat) : Int)), (33, .slice a (min L.length 8) c)]) (fun φ20 => []) (fun φ20 => []) s trivial (fun φ20 => by kernel_rfl) ?_
    intro φ20 w20 s
    refine ops_done (by kernel_rfl) ?_
    refine wp_block ?_
    have hx1 := of_decide_eq_false hc11
    have hx2 := hi9_0
    obtain ⟨I21, le21, hb21, s⟩ := freeze_row (H := []) (F := F9) s hi9_1
    replace hL := SSl.mono le21 hL
    replace hL8 := SSl.mono le21 hL8
    replace hle8 := leMono le21 hle8
    rw [show ((L.take (min L.length 8)).take i9) = (L.take (min L.length 8)) from List.take_of_length_le (by rw [ll_len]; omega)] at hb21
    obtain ⟨a21, c21, hv21, hc21, hb21⟩ := hb21.open
    subst hv21
    have hle22 := IM.Le.refl I21
    refine loop_rule (fun (x : Nat × List UInt8 × Option Addr × Nat) => [(33, .slice a (min L.length 8) c), (34, .int .i64 (((min L.length 8) : Nat) : Int)), (35, .int .i64 ((x.1 : Nat) : Int)), (3, .slice x.2.2.1 (List.length x.2.1) x.2.2.2)]) (fun (x : Nat × List UInt8 × Option Addr × Nat) => []) (fun m (x : Nat × List UInt8 × Option Addr × Nat) J => IM.Le I21 J ∧ x.1 + m = (min L.length 8) ∧ x.2.1 = allL ((L.take (min L.length 8)).drop x.1) ∧ BSl J x.2.1 (.slice x.2.2.1 (List.length x.2.1) x.2.2.2)) ((min L.length 8)) (0, (allL (L.take (min L.length 8))), a21, c21) s (by kernel_rfl) List.Sublist.slnil ⟨IM.Le.refl _, Nat.zero_add _, rfl, hb21⟩ ?_
    rintro m23 ⟨i23, cur23, a23, c23⟩ I23 w23 ev23 s ⟨le23, hi23_0, hi23_1, hi23_2⟩
    try dsimp only at s hi23_0 hi23_1 hi23_2 ⊢
    replace hL := SSl.mono le23 hL
    replace hL8 := SSl.mono le23 hL8
    replace hle8 := leMono le23 hle8
    replace hb21 := BSl.mono le23 hb21
    replace hle22 := leMono le23 hle22
    refine wp_seq ?_
    refine region_rule ?_
    refine ops_rule (C := []) [] [] 1 [] 0 (fun φ24 => [(36, .bool (decide (((i23 : Nat) : Int) < (((min L.length 8) : Nat) : Int))))]) (fun φ24 => []) (fun φ24 => []) s trivial (fun φ24 => by kernel_rfl) ?_
    intro φ24 w24 s
    rw [nat_lss (a := i23) (b := (min L.length 8))]
    refine ops_done (by kernel_rfl) ?_
    refine wp_seq ?_
    rcases Bool.eq_false_or_eq_true (decide (i23 < (min L.length 8))) with hc25 | hc25
    ·
      rw [hc25]
      refine cond_true_rule (b := true) (by kernel_rfl) rfl ?_
      refine wp_skip ?_
      refine wp_seq ?_
      refine wp_block ?_
      refine wp_seq ?_
      refine region_rule ?_
      refine sem_rule (Instr.indexAt 93 (.slice a (min L.length 8) c) (.int .i64 ((i23 : Nat) : Int))) (some 37) (.pointer (pAt a i23)) (by kernel_rfl) (ssl_idx hL8 (by rw [ll_len]; have hq0 := of_decide_eq_false hc11; have hq1 := of_decide_eq_true hc25; omega)) ?_
      obtain ⟨a26, c26, hr26, hb26⟩ := ssl_ld s.sub hL8 (show i23 < List.length (L.take (min L.length 8)) by rw [ll_len]; have hq0 := of_decide_eq_false hc11; have hq1 := of_decide_eq_true hc25; omega)
      refine sem_rule (Instr.loadAt 34 (.pointer (pAt a i23))) (some 38) (.slice a26 (List.length ((L.take (min L.length 8)).getD i23 [])) c26) (by kernel_rfl) hr26 ?_
      refine ops_rule (C := []) [] [] 1 [] 0 (fun φ27 => [(7, .slice a26 (List.length ((L.take (min L.length 8)).getD i23 [])) c26)]) (fun φ27 => []) (fun φ27 => []) s trivial (fun φ27 => by kernel_rfl) ?_
      intro φ27 w27 s
      refine ops_done (by kernel_rfl) ?_
      refine wp_seq ?_
      refine region_rule ?_
      refine ops_rule (C := []) [] [] 1 [] 0 (fun φ28 => [(40, .slice a23 (List.length cur23) c23)]) (fun φ28 => []) (fun φ28 => []) s trivial (fun φ28 => by kernel_rfl) ?_
      intro φ28 w28 s
      refine call_rule (some 41) s (openE_c (q := (((L.take (min L.length 8)).getD i23 []).take 50)) (k := 8 + (List.length (((L.take (min L.length 8)).getD i23 []).take 50))) hi23_2 (by rw [hi23_1]; have := allL_len ((L.take (min L.length 8)).drop i23); simp only [List.length_drop, List.length_take] at this; omega) (by have hq9 := of_decide_eq_true hc25; rw [hi23_1, allL_cons (by rw [ll_len]; omega), frame_open _ _ (by simp only [List.length_take]; omega), frameL_len50])) (by kernel_rfl) ?_
      intro v29 I29 w29 le29 h29 s
      replace hL := SSl.mono le29 hL
      replace hL8 := SSl.mono le29 hL8
      replace hle8 := leMono le29 hle8
      replace hb21 := BSl.mono le29 hb21
      replace hle22 := leMono le29 hle22
      replace hi23_2 := BSl.mono le29 hi23_2
      replace hb26 := BSl.mono le29 hb26
      obtain ⟨a29, c29, rfl, h29_0⟩ := h29
      refine ops_rule (C := []) [] [] 7 [] 0 (fun φ30 => [(10, .int .i64 0), (9, .int .i64 ((8 + (List.length (((L.take (min L.length 8)).getD i23 []).take 50)) : Nat) : Int)), (8, .slice a29 (List.length (((L.take (min L.length 8)).getD i23 []).take 50)) c29), (44, .int .i64 0), (43, .int .i64 ((8 + (List.length (((L.take (min L.length 8)).getD i23 []).take 50)) : Nat) : Int)), (42, .slice a29 (List.length (((L.take (min L.length 8)).getD i23 []).take 50)) c29), (39, .tuple #[.slice a29 (List.length (((L.take (min L.length 8)).getD i23 []).take 50)) c29, .int .i64 ((8 + (List.length (((L.take (min L.length 8)).getD i23 []).take 50)) : Nat) : Int), .int .i64 0])]) (fun φ30 => []) (fun φ30 => []) s trivial (fun φ30 => by kernel_rfl) ?_
      intro φ30 w30 s
      refine ops_done (by kernel_rfl) ?_
      refine wp_seq ?_
      refine wp_seq ?_
      refine region_rule ?_
      refine ops_rule (C := []) [] [] 5 [] 0 (fun φ31 => [(49, .slice a26 (List.length ((L.take (min L.length 8)).getD i23 [])) c26), (48, .slice a29 (List.length (((L.take (min L.length 8)).getD i23 []).take 50)) c29), (47, .bool false), (46, .bool false), (45, .int .i64 0)]) (fun φ31 => []) (fun φ31 => []) s trivial (fun φ31 => by kernel_rfl) ?_
      intro φ31 w31 s
      refine call_rule (some 50) s (cut_c (m := 50) hb26 (by decide)) (by kernel_rfl) ?_
      intro v32 I32 w32 le32 h32 s
      replace hL := SSl.mono le32 hL
      replace hL8 := SSl.mono le32 hL8
      replace hle8 := leMono le32 hle8
      replace hb21 := BSl.mono le32 hb21
      replace hle22 := leMono le32 hle22
      replace hi23_2 := BSl.mono le32 hi23_2
      replace hb26 := BSl.mono le32 hb26
      replace h29_0 := BSl.mono le32 h29_0
      obtain ⟨a32, c32, rfl, h32_0⟩ := h32
      refine call_rule (some 51) s (sameR_c h29_0 h32_0 (by (try simp only [List.length_take]); omega)) (by kernel_rfl) ?_
      intro v33 I33 w33 le33 h33 s
      replace hL := SSl.mono le33 hL
      replace hL8 := SSl.mono le33 hL8
      replace hle8 := leMono le33 hle8
      replace hb21 := BSl.mono le33 hb21
      replace hle22 := leMono le33 hle22
      replace hi23_2 := BSl.mono le33 hi23_2
      replace hb26 := BSl.mono le33 hb26
      replace h29_0 := BSl.mono le33 h29_0
      replace h32_0 := BSl.mono le33 h32_0
      obtain rfl := h33
      refine ops_rule (C := []) [] [] 9 [] 0 (fun φ34 => [(60, .bool (((8 + (List.length (((L.take (min L.length 8)).getD i23 []).take 50)) : Nat) : Int) != (IntKind.wrap .i64 (((8 : Nat) : Int) + (((List.length (((L.take (min L.length 8)).getD i23 []).take 50)) : Nat) : Int))))), (59, .bool (((8 + (List.length (((L.take (min L.length 8)).getD i23 []).take 50)) : Nat) : Int) != (IntKind.wrap .i64 (((8 : Nat) : Int) + (((List.length (((L.take (min L.length 8)).getD i23 []).take 50)) : Nat) : Int))))), (58, .int .i64 (IntKind.wrap .i64 (((8 : Nat) : Int) + (((List.length (((L.take (min L.length 8)).getD i23 []).take 50)) : Nat) : Int)))), (57, .int .i64 (((List.length (((L.take (min L.length 8)).getD i23 []).take 50)) : Nat) : Int)), (56, .slice a29 (List.length (((L.take (min L.length 8)).getD i23 []).take 50)) c29), (55, .int .i64 ((8 + (List.length (((L.take (min L.length 8)).getD i23 []).take 50)) : Nat) : Int)), (54, .bool false), (53, .bool false), (52, .bool false)]) (fun φ34 => []) (fun φ34 => []) s trivial (fun φ34 => by kernel_rfl) ?_
      intro φ34 w34 s
      rw [nat_addI (a := 8) (b := (List.length (((L.take (min L.length 8)).getD i23 []).take 50))) (by have hac := congrArg List.length hi23_1; rw [allL_cons (by rw [ll_len]; have := of_decide_eq_true hc25; omega), List.length_append, frameL_len50] at hac; have ht50 := List.length_take_le 50 ((L.take (min L.length 8)).getD i23 []);  have hq0 := of_decide_eq_false hc11; have hq1 := of_decide_eq_true hc25; omega)]
      rw [(nat_neq (a := (8 + (List.length (((L.take (min L.length 8)).getD i23 []).take 50)))) (b := (8 + (List.length (((L.take (min L.length 8)).getD i23 []).take 50))))).trans (decide_eq_false (fun q => q rfl))]
      refine ops_done (by kernel_rfl) ?_
      refine cond_false_rule (b := false) (by kernel_rfl) rfl ?_
      refine wp_skip ?_
      refine region_rule ?_
      refine ops_rule (C := []) [] [] 2 [] 0 (fun φ35 => [(62, .int .i64 ((8 + (List.length (((L.take (min L.length 8)).getD i23 []).take 50)) : Nat) : Int)), (61, .slice a23 (List.length cur23) c23)]) (fun φ35 => []) (fun φ35 => []) s trivial (fun φ35 => by kernel_rfl) ?_
      intro φ35 w35 s
      refine sem_rule (Instr.sliceAt 34 (.slice a23 (List.length cur23) c23) (some (.int .i64 ((8 + (List.length (((L.take (min L.length 8)).getD i23 []).take 50)) : Nat) : Int))) none none) (some 63) (.slice (subA a23 (8 + (List.length (((L.take (min L.length 8)).getD i23 []).take 50))) c23) ((List.length cur23) - (8 + (List.length (((L.take (min L.length 8)).getD i23 []).take 50)))) (c23 - (8 + (List.length (((L.take (min L.length 8)).getD i23 []).take 50))))) (by kernel_rfl) (run_from (by have hcp := (BSl.cap hi23_2).2; have hac := congrArg List.length hi23_1; rw [allL_cons (by rw [ll_len]; have := of_decide_eq_true hc25; omega), List.length_append, frameL_len50] at hac; have ht50 := List.length_take_le 50 ((L.take (min L.length 8)).getD i23 []);  have hq0 := of_decide_eq_false hc11; have hq1 := of_decide_eq_true hc25; omega)) ?_
      refine ops_rule (C := []) [] [] 1 [] 0 (fun φ36 => [(3, .slice (subA a23 (8 + (List.length (((L.take (min L.length 8)).getD i23 []).take 50))) c23) ((List.length cur23) - (8 + (List.length (((L.take (min L.length 8)).getD i23 []).take 50)))) (c23 - (8 + (List.length (((L.take (min L.length 8)).getD i23 []).take 50)))))]) (fun φ36 => []) (fun φ36 => []) s trivial (fun φ36 => by kernel_rfl) ?_
      intro φ36 w36 s
      refine ops_done (by kernel_rfl) ?_
      refine region_rule ?_
      refine ops_rule (C := []) [] [] 2 [] 0 (fun φ37 => [(35, .int .i64 (IntKind.wrap .i64 (((i23 : Nat) : Int) + ((1 : Nat) : Int)))), (64, .int .i64 (IntKind.wrap .i64 (((i23 : Nat) : Int) + ((1 : Nat) : Int))))]) (fun φ37 => []) (fun φ37 => []) s trivial (fun φ37 => by kernel_rfl) ?_
      intro φ37 w37 s
      rw [nat_addI (a := i23) (b := 1) (by have hac := congrArg List.length hi23_1; rw [allL_cons (by rw [ll_len]; have := of_decide_eq_true hc25; omega), List.length_append, frameL_len50] at hac; have ht50 := List.length_take_le 50 ((L.take (min L.length 8)).getD i23 []);  have hq0 := of_decide_eq_false hc11; have hq1 := of_decide_eq_true hc25; omega)]
      refine ops_done (by kernel_rfl) ?_
      have hq9 := of_decide_eq_true hc25
      have hd9 : (cur23.drop (8 + (List.length (((L.take (min L.length 8)).getD i23 []).take 50)))) = allL ((L.take (min L.length 8)).drop (i23 + 1)) := (by rw [hi23_1, allL_cons (by rw [ll_len]; omega), ← frameL_len50, List.drop_left])
      obtain ⟨a38, c38, hv38, hc38, hb38⟩ := (bsl_eq (bsl_from (lo := 8 + (List.length (((L.take (min L.length 8)).getD i23 []).take 50))) hi23_2 (by have hcp := (BSl.cap hi23_2).2; have hac := congrArg List.length hi23_1; rw [allL_cons (by rw [ll_len]; have := of_decide_eq_true hc25; omega), List.length_append, frameL_len50] at hac; have ht50 := List.length_take_le 50 ((L.take (min L.length 8)).getD i23 []);  have hq0 := of_decide_eq_false hc11; have hq1 := of_decide_eq_true hc25; omega)) hd9).open
      rw [hv38]
      exact ⟨⟨m23 - 1, (i23 + 1, (allL ((L.take (min L.length 8)).drop (i23 + 1))), a38, c38), _, _, _, by omega, rfl, s, List.Sublist.slnil, by kernel_rfl, hle22, by show i23 + 1 + (m23 - 1) = (min L.length 8); omega, rfl, hb38⟩⟩
    ·
      rw [hc25]
      refine cond_false_rule (b := false) (by kernel_rfl) rfl ?_
      refine wp_exit ?_
      refine wp_seq ?_
      refine region_rule ?_
      refine ops_rule (C := []) [] [] 1 [] 0 (fun φ39 => [(66, .slice a23 (List.length cur23) c23)]) (fun φ39 => []) (fun φ39 => []) s trivial (fun φ39 => by kernel_rfl) ?_
      intro φ39 w39 s
      refine call_rule (some 67) s (openF_c hi23_2 (by have hq9 := of_decide_eq_false hc25; have := hi23_0; rw [hi23_1, List.drop_of_length_le (by rw [ll_len]; omega)]; rfl)) (by kernel_rfl) ?_
      intro v40 I40 w40 le40 h40 s
      replace hL := SSl.mono le40 hL
      replace hL8 := SSl.mono le40 hL8
      replace hle8 := leMono le40 hle8
      replace hb21 := BSl.mono le40 hb21
      replace hle22 := leMono le40 hle22
      replace hi23_2 := BSl.mono le40 hi23_2
      obtain ⟨a40, c40, rfl, -⟩ := h40
      refine ops_rule (C := []) [] [] 7 [] 0 (fun φ41 => [(13, .int .i64 6), (12, .int .i64 0), (11, .slice a40 0 c40), (70, .int .i64 6), (69, .int .i64 0), (68, .slice a40 0 c40), (65, .tuple #[.slice a40 0 c40, .int .i64 0, .int .i64 6])]) (fun φ41 => []) (fun φ41 => []) s trivial (fun φ41 => by kernel_rfl) ?_
      intro φ41 w41 s
      refine ops_done (by kernel_rfl) ?_
      refine wp_seq ?_
      refine region_rule ?_
      refine ops_rule (C := []) [] [] 4 [] 0 (fun φ42 => [(74, .bool ((((List.length cur23) : Nat) : Int) == ((0 : Nat) : Int))), (73, .bool ((((List.length cur23) : Nat) : Int) == ((0 : Nat) : Int))), (72, .int .i64 (((List.length cur23) : Nat) : Int)), (71, .slice a23 (List.length cur23) c23)]) (fun φ42 => []) (fun φ42 => []) s trivial (fun φ42 => by kernel_rfl) ?_
      intro φ42 w42 s
      rw [nat_eql (a := (List.length cur23)) (b := 0)]
      rcases Bool.eq_false_or_eq_true (decide ((List.length cur23) = 0)) with hc43 | hc43
      ·
        rw [hc43]
        refine ops_rule (C := []) [] [] 4 [] 0 (fun φ44 => [(2, .bool true), (77, .bool true), (76, .bool true), (75, .int .i64 6)]) (fun φ44 => []) (fun φ44 => []) s trivial (fun φ44 => by kernel_rfl) ?_
        intro φ44 w44 s
        refine ops_done (by kernel_rfl) ?_
        refine wp_ret ?_
        refine ret_rule (C := []) [] [] (.bool true) [] [] s trivial (by kernel_rfl) ?_
        exact ⟨_, _, _, rfl, s, rfl⟩
      ·
        exact absurd (of_decide_eq_false hc43) (fun q => q (by have hq9 := of_decide_eq_false hc25; have := hi23_0; rw [hi23_1, List.drop_of_length_le (by rw [ll_len]; omega)]; rfl))

end Go.Proofs.Ytpnlaeapnokipaa

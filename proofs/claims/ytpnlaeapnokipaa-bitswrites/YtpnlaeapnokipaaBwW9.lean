/- The document's bits. -/
import Derived.Test.YtpnlaeapnokipaaBwB5
import Derived.Test.YtpnlaeapnokipaaBwC4
set_option linter.all false
set_option maxRecDepth 100000
namespace Go.Proofs.Ytpnlaeapnokipaa
open Go.RowKit Go.Sep
attribute [local irreducible] Go.wpList Go.Code.wp

set_option maxHeartbeats 400000 in
theorem within_c {I : IM} {k : Nat} (hk : k ≤ 64) : Fun Try.prog 64 #[.int .i64 ((k : Nat) : Int)] I (fun v J => v = .int .i64 ((k : Nat) : Int)) := by
  refine enter_rule 8 [(0, .int .i64 ((k : Nat) : Int))] Try.func64 rfl (by kernel_rfl) ?_
  intro w s
  refine wp_seq ?_
  refine region_rule ?_
  refine ops_rule (C := []) [] [] 1 [] 0 (fun φ1 => [(2, .int .i64 0)]) (fun φ1 => []) (fun φ1 => []) s trivial (fun φ1 => by kernel_rfl) ?_
  intro φ1 w1 s
  refine ops_done (by kernel_rfl) ?_
  refine wp_seq ?_
  refine wp_seq ?_
  refine region_rule ?_
  refine ops_rule (C := []) [] [] 2 [] 0 (fun φ2 => [(4, .bool (decide (((k : Nat) : Int) < ((0 : Nat) : Int)))), (3, .int .i64 ((k : Nat) : Int))]) (fun φ2 => []) (fun φ2 => []) s trivial (fun φ2 => by kernel_rfl) ?_
  intro φ2 w2 s
  rw [nat_lss (a := k) (b := 0)]
  refine ops_done (by kernel_rfl) ?_
  rcases Bool.eq_false_or_eq_true (decide (k < 0)) with hc3 | hc3
  ·
    exact absurd (of_decide_eq_true hc3) (by omega)
  ·
    rw [hc3]
    refine cond_false_rule (b := false) (by kernel_rfl) rfl ?_
    refine wp_skip ?_
    refine wp_seq ?_
    refine wp_seq ?_
    refine region_rule ?_
    refine ops_rule (C := []) [] [] 2 [] 0 (fun φ4 => [(6, .bool (decide (((k : Nat) : Int) > ((64 : Nat) : Int)))), (5, .int .i64 ((k : Nat) : Int))]) (fun φ4 => []) (fun φ4 => []) s trivial (fun φ4 => by kernel_rfl) ?_
    intro φ4 w4 s
    rw [nat_gtr (a := k) (b := 64)]
    refine ops_done (by kernel_rfl) ?_
    rcases Bool.eq_false_or_eq_true (decide (64 < k)) with hc5 | hc5
    ·
      exact absurd (of_decide_eq_true hc5) (by omega)
    ·
      rw [hc5]
      refine cond_false_rule (b := false) (by kernel_rfl) rfl ?_
      refine wp_skip ?_
      refine wp_seq ?_
      refine region_rule ?_
      refine ops_rule (C := []) [] [] 2 [] 0 (fun φ6 => [(2, .int .i64 ((k : Nat) : Int)), (7, .int .i64 ((k : Nat) : Int))]) (fun φ6 => []) (fun φ6 => []) s trivial (fun φ6 => by kernel_rfl) ?_
      intro φ6 w6 s
      refine ops_done (by kernel_rfl) ?_
      refine wp_ret ?_
      refine ret_rule (C := []) [] [] (.int .i64 ((k : Nat) : Int)) [] [] s trivial (by kernel_rfl) ?_
      exact ⟨_, _, _, rfl, s, rfl⟩

theorem pow_lt64 {i b : Nat} (h : i < b) (hb : b ≤ 63) : 2 ^ i * 2 < 18446744073709551616 := by
  have := Nat.pow_lt_pow_right (a := 2) (by decide) (show i + 1 < 64 by omega)
  rw [Nat.pow_succ] at this; exact this

set_option maxHeartbeats 400000 in
theorem power_c {I : IM} {b : Nat} (hb : b ≤ 63) : Fun Try.prog 65 #[.int .i64 ((b : Nat) : Int)] I (fun v J => v = .int .u64 ((2 ^ b : Nat) : Int)) := by
  refine enter_rule 13 [(0, .int .i64 ((b : Nat) : Int))] Try.func65 rfl (by kernel_rfl) ?_
  intro w s
  refine wp_seq ?_
  refine region_rule ?_
  refine ops_rule (C := []) [] [] 1 [] 0 (fun φ1 => [(2, .int .u64 0)]) (fun φ1 => []) (fun φ1 => []) s trivial (fun φ1 => by kernel_rfl) ?_
  intro φ1 w1 s
  refine ops_done (by kernel_rfl) ?_
  refine wp_seq ?_
  refine region_rule ?_
  refine ops_rule (C := []) [] [] 1 [] 0 (fun φ2 => [(3, .int .u64 1)]) (fun φ2 => []) (fun φ2 => []) s trivial (fun φ2 => by kernel_rfl) ?_
  intro φ2 w2 s
  refine ops_done (by kernel_rfl) ?_
  refine wp_seq ?_
  refine wp_seq ?_
  refine region_rule ?_
  refine ops_rule (C := []) [] [] 1 [] 0 (fun φ3 => [(4, .int .i64 0)]) (fun φ3 => []) (fun φ3 => []) s trivial (fun φ3 => by kernel_rfl) ?_
  intro φ3 w3 s
  refine ops_done (by kernel_rfl) ?_
  refine wp_block ?_
  have hle4 := IM.Le.refl I
  refine loop_rule (fun (x : Nat) => [(0, .int .i64 ((b : Nat) : Int)), (3, .int .u64 ((2 ^ x : Nat) : Int)), (4, .int .i64 ((x : Nat) : Int))]) (fun (x : Nat) => []) (fun m (x : Nat) J => IM.Le I J ∧ x + m = b) (b) 0 s (by kernel_rfl) List.Sublist.slnil ⟨IM.Le.refl _, Nat.zero_add _⟩ ?_
  rintro m5 i5 I5 w5 ev5 s ⟨le5, hi5_0⟩
  try dsimp only at s hi5_0 ⊢
  replace hle4 := leMono le5 hle4
  refine wp_seq ?_
  refine wp_seq ?_
  refine region_rule ?_
  refine ops_rule (C := []) [] [] 3 [] 0 (fun φ6 => [(7, .bool (decide (((i5 : Nat) : Int) < ((b : Nat) : Int)))), (6, .int .i64 ((b : Nat) : Int)), (5, .int .i64 ((i5 : Nat) : Int))]) (fun φ6 => []) (fun φ6 => []) s trivial (fun φ6 => by kernel_rfl) ?_
  intro φ6 w6 s
  rw [nat_lss (a := i5) (b := b)]
  refine ops_done (by kernel_rfl) ?_
  rcases Bool.eq_false_or_eq_true (decide (i5 < b)) with hc7 | hc7
  ·
    rw [hc7]
    refine cond_true_rule (b := true) (by kernel_rfl) rfl ?_
    refine wp_skip ?_
    refine wp_seq ?_
    refine wp_block ?_
    refine region_rule ?_
    refine ops_rule (C := []) [] [] 3 [] 0 (fun φ8 => [(3, .int .u64 (IntKind.wrap .u64 (((2 ^ i5 : Nat) : Int) * ((2 : Nat) : Int)))), (11, .int .u64 (IntKind.wrap .u64 (((2 ^ i5 : Nat) : Int) * ((2 : Nat) : Int)))), (10, .int .u64 ((2 ^ i5 : Nat) : Int))]) (fun φ8 => []) (fun φ8 => []) s trivial (fun φ8 => by kernel_rfl) ?_
    intro φ8 w8 s
    rw [nat_mulU (a := (2 ^ i5)) (b := 2) (by exact pow_lt64 (of_decide_eq_true hc7) hb)]
    refine ops_done (by kernel_rfl) ?_
    refine region_rule ?_
    refine ops_rule (C := []) [] [] 3 [] 0 (fun φ9 => [(4, .int .i64 (IntKind.wrap .i64 (((i5 : Nat) : Int) + ((1 : Nat) : Int)))), (9, .int .i64 (IntKind.wrap .i64 (((i5 : Nat) : Int) + ((1 : Nat) : Int)))), (8, .int .i64 ((i5 : Nat) : Int))]) (fun φ9 => []) (fun φ9 => []) s trivial (fun φ9 => by kernel_rfl) ?_
    intro φ9 w9 s
    rw [nat_addI (a := i5) (b := 1) (by  have hq0 := of_decide_eq_true hc7; omega)]
    refine ops_done (by kernel_rfl) ?_
    have hq9 := of_decide_eq_true hc7
    rw [show 2 ^ i5 * 2 = 2 ^ (i5 + 1) from rfl]
    exact ⟨⟨m5 - 1, i5 + 1, _, _, _, by omega, rfl, s, List.Sublist.slnil, by kernel_rfl, hle4, by show i5 + 1 + (m5 - 1) = b; omega⟩⟩
  ·
    rw [hc7]
    refine cond_false_rule (b := false) (by kernel_rfl) rfl ?_
    refine wp_exit ?_
    refine wp_seq ?_
    refine region_rule ?_
    refine ops_rule (C := []) [] [] 2 [] 0 (fun φ10 => [(2, .int .u64 ((2 ^ i5 : Nat) : Int)), (12, .int .u64 ((2 ^ i5 : Nat) : Int))]) (fun φ10 => []) (fun φ10 => []) s trivial (fun φ10 => by kernel_rfl) ?_
    intro φ10 w10 s
    refine ops_done (by kernel_rfl) ?_
    refine wp_ret ?_
    refine ret_rule (C := []) [] [] (.int .u64 ((2 ^ i5 : Nat) : Int)) [] [] s trivial (by kernel_rfl) ?_
    exact ⟨_, _, _, rfl, s, (by have := of_decide_eq_false hc7; rw [show i5 = b by omega])⟩

set_option maxHeartbeats 2000000 in
theorem refput_r {I : IM} {l : List Bool} {a : Option Addr} {m c : Nat} (hl : BoS I l (.slice a m c)) (hn9 : l.length ≤ 1000000) {n k : Nat} (hn : n < 18446744073709551616) (hk : k ≤ 64) : FunM Try.prog 17 #[.slice a m c, .int .u64 ((n : Nat) : Int), .int .i64 ((k : Nat) : Int)] I [] (fun v J F => RowH 4 1 v (l ++ putBits n k).length ((l ++ putBits n k).map Value.bool) F) := by
  obtain ⟨rfl, -⟩ := hl.cap
  refine enterM_rule 28 [(0, .slice a l.length c), (1, .int .u64 ((n : Nat) : Int)), (2, .int .i64 ((k : Nat) : Int))] Try.func17 rfl (by kernel_rfl) ?_
  intro w s
  refine wp_seq ?_
  refine region_rule ?_
  refine ops_rule (C := []) [] [] 1 [] 0 (fun φ1 => [(6, .slice none 0 0)]) (fun φ1 => []) (fun φ1 => []) s trivial (fun φ1 => by kernel_rfl) ?_
  intro φ1 w1 s
  refine ops_done (by kernel_rfl) ?_
  refine wp_seq ?_
  refine region_rule ?_
  refine ops_rule (C := []) [] [] 1 [] 0 (fun φ2 => [(7, .slice none 0 0)]) (fun φ2 => []) (fun φ2 => []) s trivial (fun φ2 => by kernel_rfl) ?_
  intro φ2 w2 s
  refine ops_done (by kernel_rfl) ?_
  refine wp_seq ?_
  refine wp_seq ?_
  refine region_rule ?_
  refine ops_rule (C := []) [] [] 1 [] 0 (fun φ3 => [(8, .int .i64 0)]) (fun φ3 => []) (fun φ3 => []) s trivial (fun φ3 => by kernel_rfl) ?_
  intro φ3 w3 s
  refine ops_done (by kernel_rfl) ?_
  refine wp_block ?_
  have hle4 := IM.Le.refl I
  refine loop_rule (fun (x : Nat × Nat × Option Addr × Nat) => [(0, .slice a l.length c), (2, .int .i64 ((k : Nat) : Int)), (8, .int .i64 ((x.1 : Nat) : Int)), (1, .int .u64 ((x.2.1 : Nat) : Int)), (7, .slice x.2.2.1 (List.length (putBits n x.1)) x.2.2.2)]) (fun (x : Nat × Nat × Option Addr × Nat) => []) (fun m (x : Nat × Nat × Option Addr × Nat) J => IM.Le I J ∧ x.1 + m = k ∧ x.2.1 = n / 2 ^ x.1 ∧ BoS J (putBits n x.1) (.slice x.2.2.1 (List.length (putBits n x.1)) x.2.2.2)) (k) (0, n, none, 0) s (by kernel_rfl) List.Sublist.slnil ⟨IM.Le.refl _, Nat.zero_add _, (Nat.div_one n).symm, bos_nil _⟩ ?_
  rintro m5 ⟨i5, nn5, a5, c5⟩ I5 w5 ev5 s ⟨le5, hi5_0, hi5_1, hi5_2⟩
  try dsimp only at s hi5_0 hi5_1 hi5_2 ⊢
  replace hl := BoS.mono le5 hl
  replace hle4 := leMono le5 hle4
  refine wp_seq ?_
  refine wp_seq ?_
  refine region_rule ?_
  refine ops_rule (C := []) [] [] 2 [] 0 (fun φ6 => [(10, .int .i64 ((k : Nat) : Int)), (9, .int .i64 ((i5 : Nat) : Int))]) (fun φ6 => []) (fun φ6 => []) s trivial (fun φ6 => by kernel_rfl) ?_
  intro φ6 w6 s
  refine call_rule (some 11) s (within_c (k := k) hk) (by kernel_rfl) ?_
  intro v7 I7 w7 le7 h7 s
  replace hl := BoS.mono le7 hl
  replace hle4 := leMono le7 hle4
  replace hi5_2 := BoS.mono le7 hi5_2
  obtain rfl := h7
  refine ops_rule (C := []) [] [] 1 [] 0 (fun φ8 => [(12, .bool (decide (((i5 : Nat) : Int) < ((k : Nat) : Int))))]) (fun φ8 => []) (fun φ8 => []) s trivial (fun φ8 => by kernel_rfl) ?_
  intro φ8 w8 s
  rw [nat_lss (a := i5) (b := k)]
  refine ops_done (by kernel_rfl) ?_
  rcases Bool.eq_false_or_eq_true (decide (i5 < k)) with hc9 | hc9
  ·
    rw [hc9]
    refine cond_true_rule (b := true) (by kernel_rfl) rfl ?_
    refine wp_skip ?_
    refine wp_seq ?_
    refine wp_block ?_
    refine wp_seq ?_
    refine region_rule ?_
    refine ops_rule (C := []) [] [] 5 [] 1 (fun φ10 => [(19, .slice a5 (List.length (putBits n i5)) c5), (18, .slice (some ⟨(φ10 0), 0, none⟩) 1 1), (17, .bool ((Int.tmod ((nn5 : Nat) : Int) ((2 : Nat) : Int)) == ((1 : Nat) : Int))), (16, .int .u64 (Int.tmod ((nn5 : Nat) : Int) ((2 : Nat) : Int))), (15, .int .u64 ((nn5 : Nat) : Int))]) (fun φ10 => [((φ10 0), .cells #[.bool ((Int.tmod ((nn5 : Nat) : Int) ((2 : Nat) : Int)) == ((1 : Nat) : Int))] 4)]) (fun φ10 => []) s trivial (fun φ10 => by kernel_rfl) ?_
    intro φ10 w10 s
    rw [nat_rem (a := nn5) (b := 2)] at s ⊢
    rw [nat_eql (a := (nn5 % 2)) (b := 1)] at s ⊢
    refine append_rule (H := []) (F := [((φ10 0), .cells #[.bool (decide ((nn5 % 2) = 1))] 4)]) 26 26 4 Try.t4 (.bool false) 1 1 (some 20) s Try.underlying26 (by kernel_rfl) (by kernel_rfl) (by kernel_rfl) (by kernel_rfl) (by kernel_rfl) (by decide) (row_oneB (φ10 0) (decide ((nn5 % 2) = 1))) (src_bos s.sub hi5_2) (by have hq8 := of_decide_eq_true hc9; (try simp only [maxLen, List.length_append, List.length_cons, List.length_nil, putBits_len]); omega) (by have hq8 := of_decide_eq_true hc9; (try simp only [maxLen, List.length_append, List.length_cons, List.length_nil, putBits_len]); omega) (by kernel_rfl) ?_
    intro v11 w11 F11 s h11
    replace h11 : RowH 4 1 v11 ((([decide ((nn5 % 2) = 1)] : List Bool) ++ (putBits n i5)).length) ((([decide ((nn5 % 2) = 1)] : List Bool) ++ (putBits n i5)).map Value.bool) F11 := row_appB (x := ([decide ((nn5 % 2) = 1)] : List Bool)) (y := (putBits n i5)) h11
    obtain ⟨I12, le12, hb12, s⟩ := freeze_rowB (H := []) (F := F11) s h11
    replace hl := BoS.mono le12 hl
    replace hle4 := leMono le12 hle4
    replace hi5_2 := BoS.mono le12 hi5_2
    replace hb12 := bos_eq (l2 := (putBits n (i5 + 1))) hb12 (by rw [putBits_succ, hi5_1]; rfl)
    obtain ⟨a12, c12, hv12, hc12, hb12⟩ := hb12.open
    subst hv12
    refine ops_rule (C := []) [] [] 1 [] 0 (fun φ13 => [(7, .slice a12 (List.length (putBits n (i5 + 1))) c12)]) (fun φ13 => []) (fun φ13 => []) s trivial (fun φ13 => by kernel_rfl) ?_
    intro φ13 w13 s
    refine ops_done (by kernel_rfl) ?_
    refine region_rule ?_
    refine ops_rule (C := []) [] [] 3 [] 0 (fun φ14 => [(1, .int .u64 (IntKind.wrap .u64 (Int.tdiv ((nn5 : Nat) : Int) ((2 : Nat) : Int)))), (22, .int .u64 (IntKind.wrap .u64 (Int.tdiv ((nn5 : Nat) : Int) ((2 : Nat) : Int)))), (21, .int .u64 ((nn5 : Nat) : Int))]) (fun φ14 => []) (fun φ14 => []) s trivial (fun φ14 => by kernel_rfl) ?_
    intro φ14 w14 s
    rw [nat_quoU (a := nn5) (b := 2) (by have hnn := hi5_1; have hnd := Nat.div_le_self n (2 ^ i5); have hq0 := of_decide_eq_true hc9; omega)]
    refine ops_done (by kernel_rfl) ?_
    refine region_rule ?_
    refine ops_rule (C := []) [] [] 3 [] 0 (fun φ15 => [(8, .int .i64 (IntKind.wrap .i64 (((i5 : Nat) : Int) + ((1 : Nat) : Int)))), (14, .int .i64 (IntKind.wrap .i64 (((i5 : Nat) : Int) + ((1 : Nat) : Int)))), (13, .int .i64 ((i5 : Nat) : Int))]) (fun φ15 => []) (fun φ15 => []) s trivial (fun φ15 => by kernel_rfl) ?_
    intro φ15 w15 s
    rw [nat_addI (a := i5) (b := 1) (by have hnn := hi5_1; have hnd := Nat.div_le_self n (2 ^ i5); have hq0 := of_decide_eq_true hc9; omega)]
    refine ops_done (by kernel_rfl) ?_
    have hq9 := of_decide_eq_true hc9
    exact ⟨⟨m5 - 1, (i5 + 1, nn5 / 2, a12, c12), _, _, _, by omega, rfl, s, List.Sublist.slnil, by kernel_rfl, hle4, by show i5 + 1 + (m5 - 1) = k; omega, by show nn5 / 2 = _; rw [hi5_1, Nat.div_div_eq_div_mul, Nat.pow_succ], hb12⟩⟩
  ·
    rw [hc9]
    refine cond_false_rule (b := false) (by kernel_rfl) rfl ?_
    refine wp_exit ?_
    refine wp_seq ?_
    refine region_rule ?_
    refine ops_rule (C := []) [] [] 2 [] 1 (fun φ16 => [(24, .slice a l.length c), (23, .slice (some ⟨(φ16 0), 0, none⟩) 0 0)]) (fun φ16 => [((φ16 0), .cells #[] 4)]) (fun φ16 => []) s trivial (fun φ16 => by kernel_rfl) ?_
    intro φ16 w16 s
    refine append_rule (H := []) (F := [((φ16 0), .cells #[] 4)]) 26 26 4 Try.t4 (.bool false) 1 1 (some 25) s Try.underlying26 (by kernel_rfl) (by kernel_rfl) (by kernel_rfl) (by kernel_rfl) (by kernel_rfl) (by decide) (row_newB (φ16 0)) (src_bos s.sub hl) (by  (try simp only [maxLen, List.length_append, List.length_cons, List.length_nil, putBits_len]); omega) (by  (try simp only [maxLen, List.length_append, List.length_cons, List.length_nil, putBits_len]); omega) (by kernel_rfl) ?_
    intro v17 w17 F17 s h17
    replace h17 : RowH 4 1 v17 ((l).length) ((l).map Value.bool) F17 := row_appB (x := []) (y := l) h17
    refine ops_rule (C := []) [] F17 1 [] 0 (fun φ18 => [(26, .slice a5 (List.length (putBits n i5)) c5)]) (fun φ18 => []) (fun φ18 => []) s trivial (fun φ18 => by kernel_rfl) ?_
    intro φ18 w18 s
    refine append_rule (H := []) (F := F17) 26 26 4 Try.t4 (.bool false) 1 1 (some 27) s Try.underlying26 (by kernel_rfl) (by kernel_rfl) (by kernel_rfl) (by kernel_rfl) (by kernel_rfl) (by decide) h17 (src_bos s.sub hi5_2) (by  (try simp only [maxLen, List.length_append, List.length_cons, List.length_nil, putBits_len]); omega) (by  (try simp only [maxLen, List.length_append, List.length_cons, List.length_nil, putBits_len]); omega) (by kernel_rfl) ?_
    intro v19 w19 F19 s h19
    replace h19 : RowH 4 1 v19 ((l ++ (putBits n i5)).length) ((l ++ (putBits n i5)).map Value.bool) F19 := row_appB (x := l) (y := (putBits n i5)) h19
    refine ops_rule (C := []) [] F19 1 [] 0 (fun φ20 => [(6, v19)]) (fun φ20 => []) (fun φ20 => []) s trivial (fun φ20 => by kernel_rfl) ?_
    intro φ20 w20 s
    refine ops_done (by kernel_rfl) ?_
    refine wp_ret ?_
    refine ret_rule (C := []) [] F19 (v19) [] [] s trivial (by kernel_rfl) ?_
    replace s := s.drop (List.sublist_append_right [] F19)
    exact ⟨_, _, _, rfl, s, (by have h8 := of_decide_eq_false hc9; have e8 : k = i5 := (by omega); rw [e8]; exact h19)⟩

theorem refput_c {I : IM} {l : List Bool} {a : Option Addr} {m c : Nat} (hl : BoS I l (.slice a m c)) (hn9 : l.length ≤ 1000000) {n k : Nat} (hn : n < 18446744073709551616) (hk : k ≤ 64) : Fun Try.prog 17 #[.slice a m c, .int .u64 ((n : Nat) : Int), .int .i64 ((k : Nat) : Int)] I (fun v J => boR (l ++ putBits n k) v J) := fun_of_rowBo (refput_r hl hn9 hn hk)

end Go.Proofs.Ytpnlaeapnokipaa

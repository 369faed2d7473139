/- The bits of bytes. -/
import Derived.Test.YtgmigcmhnmmdkaaDoorCdM14
import Derived.Test.YtgmigcmhnmmdkaaDoorCdM13
set_option linter.all false
set_option maxRecDepth 100000
namespace Go.Proofs.YtgmigcmhnmmdkaaDoor
open Go.RowKit Go.Sep
attribute [local irreducible] Go.wpList Go.Code.wp

theorem wrap8_mul {b : Nat} : IntKind.wrap .u8 (((b : Nat) : Int) * ((2 : Nat) : Int)) = ((b * 2 % 256 : Nat) : Int) := by
  simp only [IntKind.wrap, IntKind.signed, IntKind.bits]
  show (((b : Nat) : Int) * ((2 : Nat) : Int)) % 256 = _
  omega

set_option maxHeartbeats 2000000 in
theorem refBits_r {I : IM} {l : List UInt8} {a : Option Addr} {n c : Nat} (hl : BSl I l (.slice a n c)) (hn9 : l.length ≤ 100000) : FunM Tryd.prog 13 #[.slice a n c] I [] (fun v J F => RowH 4 1 v (bitsL l).length ((bitsL l).map Value.bool) F) := by
 obtain ⟨rfl, -⟩ := hl.cap
 refine enterM_rule 26 [(0, .slice a l.length c)] Tryd.func13 rfl (by kernel_rfl) ?_
 intro w s
 refine seqR ?_
 refine oKD [] [] 1 [] 0 (fun φ1 => [(2, .slice none 0 0)]) (fun φ1 => []) s (fun φ1 => by kernel_rfl) (by kernel_rfl) ?_
 intro φ1 w1 s
 refine seqR ?_
 refine oKD [] [] 1 [] 0 (fun φ2 => [(3, .slice none 0 0)]) (fun φ2 => []) s (fun φ2 => by kernel_rfl) (by kernel_rfl) ?_
 intro φ2 w2 s
 refine wp_seq ?_
 refine seqR ?_
 refine oKD [] [] 3 [] 0 (fun φ3 => [(9, .int .i64 0), (8, .int .i64 l.length), (7, .slice a l.length c)]) (fun φ3 => []) s (fun φ3 => by kernel_rfl) (by kernel_rfl) ?_
 intro φ3 w3 s
 refine wp_block ?_
 have hle4 := IM.Le.refl I
 refine loop_rule (fun (x : Nat × Value × List OB) => [(7, .slice a l.length c), (8, .int .i64 l.length), (9, .int .i64 x.1), (3, x.2.1)]) (fun (x : Nat × Value × List OB) => [] ++ x.2.2) (fun m (x : Nat × Value × List OB) J => IM.Le I J ∧ x.1 + m = l.length ∧ RowH 4 1 x.2.1 ((bitsL l).take (x.1 * 8)).length (((bitsL l).take (x.1 * 8)).map Value.bool) x.2.2) (l.length) (0, (.slice none 0 0), []) s (by kernel_rfl) (List.Sublist.refl _) ⟨IM.Le.refl _, Nat.zero_add _, (by rw [Nat.zero_mul]; exact row_nilBo)⟩ ?_
 rintro m5 ⟨i5, v5, F5⟩ I5 w5 ev5 s ⟨le5, hi5_0, hi5_1⟩
 try dsimp only at s hi5_0 hi5_1 ⊢
 replace hl := BSl.mono le5 hl
 replace hle4 := leMono le5 hle4
 refine seqR ?_
 refine oK [] F5 1 [] 0 (fun φ6 => [(10, .bool (decide (((i5 : Nat) : Int) < ((l.length : Nat) : Int))))]) (fun φ6 => []) s (fun φ6 => by kernel_rfl) ?_
 intro φ6 w6 s
 rw [nat_lss (a := i5) (b := l.length)]
 refine ops_done (by kernel_rfl) ?_
 refine wp_seq ?_
 rcases Bool.eq_false_or_eq_true (decide (i5 < l.length)) with hc7 | hc7
 ·
  rw [hc7]
  refine cond_true_rule (b := true) (by kernel_rfl) rfl ?_
  refine wp_skip ?_
  refine wp_seq ?_
  refine wp_block ?_
  refine seqR ?_
  refine sem_rule (Instr.indexAt 22 (.slice a l.length c) (.int .i64 i5)) (some 11) (.pointer (pAt a i5)) (by kernel_rfl) (bsl_idx hl (by  have hq0 := of_decide_eq_true hc7; omega)) ?_
  refine sem_rule (Instr.loadAt 5 (.pointer (pAt a i5))) (some 12) (.int .u8 (((l.getD i5 0).toNat : Nat) : Int)) (by kernel_rfl) (bsl_ld s.sub hl (by  have hq0 := of_decide_eq_true hc7; omega)) ?_
  refine oKD [] F5 1 [] 0 (fun φ8 => [(5, .int .u8 (((l.getD i5 0).toNat : Nat) : Int))]) (fun φ8 => []) s (fun φ8 => by kernel_rfl) (by kernel_rfl) ?_
  intro φ8 w8 s
  refine seqR ?_
  refine oKD [] F5 1 [] 0 (fun φ9 => [(6, .int .i64 0)]) (fun φ9 => []) s (fun φ9 => by kernel_rfl) (by kernel_rfl) ?_
  intro φ9 w9 s
  refine wp_block ?_
  have hle10 := IM.Le.refl I5
  refine loop_rule (fun (x : Nat × Nat × Value × List OB) => [(7, .slice a l.length c), (8, .int .i64 l.length), (9, .int .i64 i5), (6, .int .i64 x.1), (5, .int .u8 x.2.1), (3, x.2.2.1)]) (fun (x : Nat × Nat × Value × List OB) => [] ++ x.2.2.2) (fun m (x : Nat × Nat × Value × List OB) J => IM.Le I5 J ∧ x.1 + m = 8 ∧ x.2.1 = (l.getD i5 0).toNat * 2 ^ x.1 % 256 ∧ RowH 4 1 x.2.2.1 ((bitsL l).take (i5 * 8 + x.1)).length (((bitsL l).take (i5 * 8 + x.1)).map Value.bool) x.2.2.2) (8) (0, (l.getD i5 0).toNat, v5, F5) s (by kernel_rfl) (List.Sublist.refl _) ⟨IM.Le.refl _, rfl, (by have := byte_lt (l.getD i5 0); show (l.getD i5 0).toNat = (l.getD i5 0).toNat * 2 ^ 0 % 256; rw [Nat.pow_zero, Nat.mul_one, Nat.mod_eq_of_lt this]), hi5_1⟩ ?_
  rintro m11 ⟨k11, b11, v11, F11⟩ I11 w11 ev11 s ⟨le11, hi11_0, hi11_1, hi11_2⟩
  try dsimp only at s hi11_0 hi11_1 hi11_2 ⊢
  replace hle4 := leMono le11 hle4
  replace hle10 := leMono le11 hle10
  refine wp_seq ?_
  refine seqR ?_
  refine oK [] F11 2 [] 0 (fun φ12 => [(14, .bool (decide (((k11 : Nat) : Int) < ((8 : Nat) : Int)))), (13, .int .i64 k11)]) (fun φ12 => []) s (fun φ12 => by kernel_rfl) ?_
  intro φ12 w12 s
  rw [nat_lss (a := k11) (b := 8)]
  refine ops_done (by kernel_rfl) ?_
  rcases Bool.eq_false_or_eq_true (decide (k11 < 8)) with hc13 | hc13
  ·
   rw [hc13]
   refine cond_true_rule (b := true) (by kernel_rfl) rfl ?_
   refine wp_skip ?_
   refine wp_seq ?_
   refine wp_block ?_
   refine seqR ?_
   refine oA [] F11 4 [] 1 (fun φ14 => [(20, .slice (some ⟨(φ14 0), 0, none⟩) 1 1), (19, .bool (decide (((b11 : Nat) : Int) ≥ ((128 : Nat) : Int)))), (18, .int .u8 b11), (17, v11)]) (fun φ14 => [(φ14 0, .cells #[.bool (decide (((b11 : Nat) : Int) ≥ ((128 : Nat) : Int)))] 4)]) (fun φ14 => []) s (fun φ14 => by kernel_rfl) ?_
   intro φ14 w14 s
   rw [nat_geq (a := b11) (b := 128)] at s ⊢
   obtain ⟨I15, le15, hk15, s⟩ := s.freezeAt 0 (φ14 0) (.cells #[.bool (decide (128 ≤ b11))] 4) ([] ++ F11) (by kernel_rfl) (by kernel_rfl)
   replace hle4 := leMono le15 hle4
   replace hle10 := leMono le15 hle10
   refine append_rule (H := []) (F := F11) 37 37 4 Tryd.t4 (.bool false) 1 1 (some 21) s Tryd.underlying37 (by kernel_rfl) (by kernel_rfl) (by kernel_rfl) (by kernel_rfl) (by kernel_rfl) (by decide) hi11_2 (src_bos s.sub (bos_one hk15)) (by have hq0 := of_decide_eq_true hc7; have hq1 := of_decide_eq_true hc13; have hln : List.length ((bitsL l).take (i5 * 8 + k11)) ≤ i5 * 8 + k11 := List.length_take_le ..; (try simp only [maxLen, List.length_append, List.length_cons, List.length_nil]); omega) (by have hq0 := of_decide_eq_true hc7; have hq1 := of_decide_eq_true hc13; have hln : List.length ((bitsL l).take (i5 * 8 + k11)) ≤ i5 * 8 + k11 := List.length_take_le ..; (try simp only [maxLen, List.length_append, List.length_cons, List.length_nil]); omega) (by kernel_rfl) ?_
   intro v16 w16 F16 s h16
   replace h16 : RowH 4 1 v16 ((((bitsL l).take (i5 * 8 + k11)) ++ ([decide (128 ≤ b11)] : List Bool)).length) ((((bitsL l).take (i5 * 8 + k11)) ++ ([decide (128 ≤ b11)] : List Bool)).map Value.bool) F16 := row_appB (x := ((bitsL l).take (i5 * 8 + k11))) (y := ([decide (128 ≤ b11)] : List Bool)) h16
   refine oKD [] F16 1 [] 0 (fun φ17 => [(3, v16)]) (fun φ17 => []) s (fun φ17 => by kernel_rfl) (by kernel_rfl) ?_
   intro φ17 w17 s
   refine region_rule ?_
   refine oKD [] F16 3 [] 0 (fun φ18 => [(5, .int .u8 (IntKind.wrap .u8 (((b11 : Nat) : Int) * ((2 : Nat) : Int)))), (23, .int .u8 (IntKind.wrap .u8 (((b11 : Nat) : Int) * ((2 : Nat) : Int)))), (22, .int .u8 b11)]) (fun φ18 => []) s (fun φ18 => by kernel_rfl) (by kernel_rfl) ?_
   intro φ18 w18 s
   refine region_rule ?_
   refine oK [] F16 3 [] 0 (fun φ19 => [(6, .int .i64 (IntKind.wrap .i64 (((k11 : Nat) : Int) + ((1 : Nat) : Int)))), (16, .int .i64 (IntKind.wrap .i64 (((k11 : Nat) : Int) + ((1 : Nat) : Int)))), (15, .int .i64 k11)]) (fun φ19 => []) s (fun φ19 => by kernel_rfl) ?_
   intro φ19 w19 s
   rw [nat_addI (a := k11) (b := 1) (by  have hq0 := of_decide_eq_true hc7; have hq1 := of_decide_eq_true hc13; omega)]
   refine ops_done (by kernel_rfl) ?_
   have hq9 := of_decide_eq_true hc13
   have hi9 := of_decide_eq_true hc7
   have e9 : ((bitsL l).take (i5 * 8 + k11)) ++ ([decide (128 ≤ b11)] : List Bool) = ((bitsL l).take (i5 * 8 + (k11 + 1))) := by rw [hi11_1, top_bitB hq9, bits_snoc (by omega)]; rfl
   rw [wrap8_mul]
   have hr9 := h16
   rw [e9] at hr9
   exact ⟨⟨m11 - 1, (k11 + 1, b11 * 2 % 256, v16, F16), _, _, _, by omega, rfl, s, (List.Sublist.append List.Sublist.slnil (List.Sublist.refl _)), by kernel_rfl, hle10, by show k11 + 1 + (m11 - 1) = 8; omega, by show b11 * 2 % 256 = _; rw [hi11_1, byte_dbl], hr9⟩⟩
  ·
   rw [hc13]
   refine cond_false_rule (b := false) (by kernel_rfl) rfl ?_
   refine wp_exit ?_
   refine region_rule ?_
   refine oK [] F11 2 [] 0 (fun φ20 => [(9, .int .i64 (IntKind.wrap .i64 (((i5 : Nat) : Int) + ((1 : Nat) : Int)))), (24, .int .i64 (IntKind.wrap .i64 (((i5 : Nat) : Int) + ((1 : Nat) : Int))))]) (fun φ20 => []) s (fun φ20 => by kernel_rfl) ?_
   intro φ20 w20 s
   rw [nat_addI (a := i5) (b := 1) (by  have hq0 := of_decide_eq_true hc7; have hq1 := of_decide_eq_false hc13; omega)]
   refine ops_done (by kernel_rfl) ?_
   have hi9 := of_decide_eq_true hc7
   have hk9 := of_decide_eq_false hc13
   have hk8 := hi11_0
   have e9 : ((bitsL l).take (i5 * 8 + k11)) = ((bitsL l).take ((i5 + 1) * 8)) := by rw [show i5 * 8 + k11 = (i5 + 1) * 8 by omega]
   have hr9 := hi11_2
   rw [e9] at hr9
   exact ⟨⟨m5 - 1, (i5 + 1, v11, F11), _, _, _, by omega, rfl, s, (List.Sublist.append List.Sublist.slnil (List.Sublist.refl _)), by kernel_rfl, hle4, by show i5 + 1 + (m5 - 1) = l.length; omega, hr9⟩⟩
 ·
  rw [hc7]
  refine cond_false_rule (b := false) (by kernel_rfl) rfl ?_
  refine wp_exit ?_
  refine seqR ?_
  refine oKD [] F5 2 [] 0 (fun φ21 => [(2, v5), (25, v5)]) (fun φ21 => []) s (fun φ21 => by kernel_rfl) (by kernel_rfl) ?_
  intro φ21 w21 s
  refine wp_ret ?_
  refine ret_rule (C := []) [] F5 (v5) [] [] s trivial (by kernel_rfl) ?_
  replace s := s.drop (List.sublist_append_right [] F5)
  exact ⟨_, _, _, rfl, s, (by have hi9 := of_decide_eq_false hc7; have h0 := hi5_0; have hr9 := hi5_1; rw [show i5 * 8 = (bitsL l).length by rw [bitsL_len]; omega, List.take_length] at hr9; exact hr9)⟩

theorem refBits_c {I : IM} {l : List UInt8} {a : Option Addr} {n c : Nat} (hl : BSl I l (.slice a n c)) (hn9 : l.length ≤ 100000) : Fun Tryd.prog 13 #[.slice a n c] I (fun v J => boR (bitsL l) v J) := fun_of_rowBo (refBits_r hl hn9)

end Go.Proofs.YtgmigcmhnmmdkaaDoor

